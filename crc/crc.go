// Package crc is layer 1: check sums (see shared/doc/01-crc.md).
package crc

import (
	"sync"
	"sync/atomic"
)

// polynomial is what is xored in for a bit that falls out.
const polynomial = 0xedb88320

// sumBytes is how many bytes of a text with its sum are the sum.
const sumBytes = 4

// Table makes sums. Several goroutines may ask the same one.
type Table struct {
	once  sync.Once
	steps [256]uint32
	count atomic.Int64
}

// New is a table that has made no sum yet.
func New() *Table { return &Table{} }

// Sum is that of all parts, one behind the other.
func (t *Table) Sum(parts ...[]byte) uint32 {
	t.count.Add(1)
	sum := uint32(0)
	for _, b := range parts {
		sum = t.add(sum, b)
	}
	return sum
}

// More is the Sum of the bytes whose Sum is sum, and b behind them.
func (t *Table) More(sum uint32, b []byte) uint32 {
	t.count.Add(1)
	return t.add(sum, b)
}

// Put is b, and its Sum behind it.
func (t *Table) Put(b []byte) []byte {
	sum := lowestFirst(t.Sum(b))
	// Room of its own: b may have more behind it, which must stay.
	out := make([]byte, 0, len(b)+sumBytes)
	return append(append(out, b...), sum[:]...)
}

// Cut is b without the Sum behind it, if that is right.
func (t *Table) Cut(b []byte) ([]byte, bool) {
	n := len(b) - sumBytes
	if n < 0 {
		return nil, false
	}
	if [sumBytes]byte(b[n:]) != lowestFirst(t.Sum(b[:n])) {
		return nil, false
	}
	return append([]byte(nil), b[:n]...), true
}

// Count is how many sums were made.
func (t *Table) Count() int { return int(t.count.Load()) }

// add begins by turning all bits back, since a finished sum has them turned:
// so no bytes (sum 0) begin with all bits, and a sum can be gone on with.
func (t *Table) add(sum uint32, b []byte) uint32 {
	t.once.Do(t.fill)
	sum = ^sum
	for _, c := range b {
		sum = sum>>8 ^ t.steps[byte(sum)^c]
	}
	return ^sum
}

// fill works out what 8 shifts make of each byte. Only the bytes of a single
// bit need shifts: what a byte does is the xor of what its bits do.
func (t *Table) fill() {
	does := uint32(1)
	for bit := 128; bit > 0; bit >>= 1 {
		does = shift(does)
		for above := 0; above < len(t.steps); above += 2 * bit {
			t.steps[above+bit] = t.steps[above] ^ does
		}
	}
}

// shift takes one bit out.
func shift(n uint32) uint32 {
	if n&1 == 1 {
		return n>>1 ^ polynomial
	}
	return n >> 1
}

// lowestFirst is a sum as bytes.
func lowestFirst(sum uint32) [sumBytes]byte {
	return [sumBytes]byte{byte(sum), byte(sum >> 8), byte(sum >> 16), byte(sum >> 24)}
}
