package crc

import (
	"bytes"
	"sync"
	"testing"
)

// plain makes a sum just as the chapter tells it, bit by bit.
func plain(b []byte) uint32 {
	n := ^uint32(0)
	for _, c := range b {
		n ^= uint32(c)
		for range 8 {
			out := n & 1
			n >>= 1
			if out == 1 {
				n ^= 0xedb88320
			}
		}
	}
	return ^n
}

// some is n bytes without a simple pattern, always the same.
func some(n int) []byte {
	b := make([]byte, n)
	x := uint32(2463534242)
	for i := range b {
		x ^= x << 13
		x ^= x >> 17
		x ^= x << 5
		b[i] = byte(x)
	}
	return b
}

func TestSumOfKnownTexts(t *testing.T) { // P1.1
	for _, c := range []struct {
		text string
		want uint32
	}{
		{"", 0},
		{"a", 0xe8b7be43},
		{"abc", 0x352441c2},
		{"123456789", 0xcbf43926},
		{"\x00", 0xd202ef8d},
		{"\x00\x00\x00\x00", 0x2144df1c},
		{"\xff\xff\xff\xff", 0xffffffff},
		{"The quick brown fox jumps over the lazy dog", 0x414fa339},
	} {
		if got := New().Sum([]byte(c.text)); got != c.want {
			t.Errorf("Sum(%q) = %x, want %x", c.text, got, c.want)
		}
	}
}

func TestSumIsMadeBitByBit(t *testing.T) { // P1.1
	x := New()
	for c := range 256 {
		b := []byte{byte(c)}
		if got, want := x.Sum(b), plain(b); got != want {
			t.Errorf("Sum(%x) = %x, want %x", b, got, want)
		}
	}
	for n := range 300 {
		b := some(n)
		if got, want := x.Sum(b), plain(b); got != want {
			t.Errorf("Sum of %d bytes = %x, want %x", n, got, want)
		}
	}
}

func TestSumOfNothing(t *testing.T) { // P1.1
	x := New()
	for i, got := range []uint32{x.Sum(), x.Sum(nil), x.Sum([]byte{}), x.Sum(nil, []byte{}, nil), x.More(0, nil)} {
		if got != 0 {
			t.Errorf("%d: sum of nothing = %x", i, got)
		}
	}
}

func TestMoreGoesOn(t *testing.T) { // P1.1
	x := New()
	b := some(64)
	for i := range len(b) + 1 {
		if got, want := x.More(plain(b[:i]), b[i:]), plain(b); got != want {
			t.Errorf("More behind %d bytes = %x, want %x", i, got, want)
		}
	}
	for _, sum := range []uint32{0, 1, 0xcbf43926, 1 << 31, ^uint32(0)} {
		if got := x.More(sum, nil); got != sum {
			t.Errorf("More(%x, none) = %x", sum, got)
		}
	}
}

func TestPutIsTheBytesAndTheSumLowestFirst(t *testing.T) { // P1.2
	x := New()
	for _, c := range []struct{ text, want string }{
		{"", "\x00\x00\x00\x00"},
		{"a", "a\x43\xbe\xb7\xe8"},
		{"123456789", "123456789\x26\x39\xf4\xcb"},
	} {
		if got := x.Put([]byte(c.text)); string(got) != c.want {
			t.Errorf("Put(%q) = %x, want %x", c.text, got, c.want)
		}
	}
	if got := x.Put(nil); string(got) != "\x00\x00\x00\x00" {
		t.Errorf("Put(nil) = %x", got)
	}
}

func TestCutTellsWhatStandsAheadOfARightSum(t *testing.T) { // P1.2
	x := New()
	for _, c := range []struct{ text, want string }{
		{"\x00\x00\x00\x00", ""},
		{"a\x43\xbe\xb7\xe8", "a"},
		{"123456789\x26\x39\xf4\xcb", "123456789"},
	} {
		if got, is := x.Cut([]byte(c.text)); !is || string(got) != c.want {
			t.Errorf("Cut(%x) = %x, %v, want %x", c.text, got, is, c.want)
		}
	}
}

func TestCutRefuses(t *testing.T) { // P1.2
	x := New()
	for _, text := range []string{
		"", "\x00", "\x00\x00", "\x00\x00\x00", // fewer than four
		"\x00\x00\x00\x01", "\x01\x00\x00\x00", "\xff\xff\xff\xff", // not the sum of nothing
		"\x00\x00\x00\x00\x00",          // not the sum of a 0
		"a\xe8\xb7\xbe\x43",             // the highest first
		"\x43\xbe\xb7\xe8a",             // the sum ahead
		"a\x43\xbe\xb7\xe8\x00",         // something behind
		"123456789",                     // no sum
		"a\x43\xbe\xb7",                 // cut off
		"123456780\x26\x39\xf4\xcb",     // other bytes
		"1234567\x26\x39\xf4\xcb",       // fewer bytes
		"\x00123456789\x26\x39\xf4\xcb", // more bytes
	} {
		if got, is := x.Cut([]byte(text)); is || got != nil {
			t.Errorf("Cut(%x) = %x, %v", text, got, is)
		}
	}
	if got, is := x.Cut(nil); is || got != nil {
		t.Errorf("Cut(nil) = %x, %v", got, is)
	}
}

func TestCountOfEachCall(t *testing.T) { // P1.2
	x := New()
	if x.Count() != 0 {
		t.Fatalf("Count of a new table = %d", x.Count())
	}
	for _, c := range []struct {
		name string
		call func()
		more int
	}{
		{"Sum of nothing", func() { x.Sum() }, 1},
		{"Sum of one part", func() { x.Sum([]byte("a")) }, 1},
		{"Sum of three parts", func() { x.Sum([]byte("a"), nil, []byte("b")) }, 1},
		{"More", func() { x.More(0, []byte("a")) }, 1},
		{"More of nothing", func() { x.More(0, nil) }, 1},
		{"Put", func() { x.Put([]byte("a")) }, 1},
		{"Put of nothing", func() { x.Put(nil) }, 1},
		{"Cut of nothing", func() { x.Cut(nil) }, 0},
		{"Cut of three bytes", func() { x.Cut(make([]byte, 3)) }, 0},
		{"Cut of four right bytes", func() { x.Cut(make([]byte, 4)) }, 1},
		{"Cut of four wrong bytes", func() { x.Cut([]byte("abcd")) }, 1},
		{"Cut of five wrong bytes", func() { x.Cut([]byte("abcde")) }, 1},
		{"Count", func() { x.Count() }, 0},
	} {
		ahead := x.Count()
		c.call()
		if got := x.Count() - ahead; got != c.more {
			t.Errorf("%s: %d more, want %d", c.name, got, c.more)
		}
	}
	if New().Count() != 0 {
		t.Error("one table counts what another one made")
	}
}

func TestPartsAreNotSeen(t *testing.T) { // P1.3
	x := New()
	b := some(24)
	want := plain(b)
	for i := range len(b) + 1 {
		for j := i; j <= len(b); j++ {
			if got := x.Sum(b[:i], b[i:j], nil, b[j:]); got != want {
				t.Errorf("Sum in parts at %d, %d = %x, want %x", i, j, got, want)
			}
			if got := x.More(x.More(x.Sum(b[:i]), b[i:j]), b[j:]); got != want {
				t.Errorf("More at %d, %d = %x, want %x", i, j, got, want)
			}
		}
	}
}

func TestCutOfPutIsTheSame(t *testing.T) { // P1.3
	x := New()
	for n := range 100 {
		b := some(n)
		if got, is := x.Cut(x.Put(b)); !is || !bytes.Equal(got, b) {
			t.Errorf("Cut(Put(%x)) = %x, %v", b, got, is)
		}
	}
}

func TestOtherBytesHaveAnotherSum(t *testing.T) { // P1.3
	x := New()
	b := some(12)
	sum := x.Sum(b)
	for at := range len(b) - 1 {
		for turn := 1; turn < 1<<16; turn++ { // one byte, or it and its neighbour
			c := bytes.Clone(b)
			c[at] ^= byte(turn)
			c[at+1] ^= byte(turn >> 8)
			if x.Sum(c) == sum {
				t.Fatalf("at %d, turned by %x: the same sum", at, turn)
			}
		}
	}
}

func TestCutOfADamagedPut(t *testing.T) { // P1.2, P1.3
	x := New()
	b := x.Put(some(9))
	for at := range b {
		for turn := 1; turn < 256; turn++ {
			c := bytes.Clone(b)
			c[at] ^= byte(turn)
			if got, is := x.Cut(c); is || got != nil {
				t.Fatalf("at %d, turned by %x: %x, %v", at, turn, got, is)
			}
		}
	}
}

func TestWhatIsHandedInStays(t *testing.T) { // R5
	x := New()
	whole := []byte("abcdefgh")
	x.Sum(whole[:2], whole[2:4])
	x.More(1, whole[:2])
	x.Put(whole[:2]) // has room behind it, that is not Put's
	x.Cut(whole)
	if string(whole) != "abcdefgh" {
		t.Errorf("it is %q now", whole)
	}
}

func TestWhatIsToldIsTheCallersOwn(t *testing.T) { // R6
	x := New()
	b := []byte("ab")
	put := x.Put(b)
	cut, _ := x.Cut(put)
	want := string(put)
	cut[0] = 'x'
	_ = append(cut, "yyyyyyyy"...)
	if string(put) != want {
		t.Errorf("Cut shares with what it was given: %x", put)
	}
	put[1] = 'z'
	if string(b) != "ab" || string(cut) != "xb" {
		t.Errorf("Put shares: %q, %q", b, cut)
	}
	b[0] = 'w'
	if put[0] != 'a' {
		t.Errorf("Put keeps what it was given: %x", put)
	}
}

func TestManyMayAskOneTable(t *testing.T) { // once, atomic
	x := New()
	const asking, times = 8, 100
	var all sync.WaitGroup
	var sums [asking]uint32
	for i := range asking {
		all.Go(func() {
			for range times {
				sums[i] = x.Sum([]byte("123456789"))
			}
		})
	}
	all.Wait()
	for i, got := range sums {
		if got != 0xcbf43926 {
			t.Errorf("%d: %x", i, got)
		}
	}
	if x.Count() != asking*times {
		t.Errorf("Count = %d, want %d", x.Count(), asking*times)
	}
}
