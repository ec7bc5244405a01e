package entry

import (
	"bytes"
	"encoding/binary"
	"hash/crc32"
	"math"
	"math/rand/v2"
	"slices"
	"strings"
	"testing"

	"carabiner/api"
)

const (
	most     = 1 << 40 // of Number, of Upto's Pos, of a number of a Cut
	mostTag  = 1 << 30
	mostTerm = 64
)

// aCut is an entry of Kind 1.
func aCut(number int, v ...int) Entry { return Entry{Number: number, Kind: 1, Cut: v} }

// aTrim is an entry of Kind 2.
func aTrim(number, tag, term, pos int) Entry {
	return Entry{Number: number, Kind: 2, Tag: tag, Upto: api.Seq{Term: term, Pos: pos}}
}

// rights are entries: ordinary ones, and those at the chapter's edges.
func rights() []Entry {
	return []Entry{
		aCut(1, 0), aCut(1, 3, 2), aCut(7, 300, 128, 127), aCut(most-1, 5), aCut(most, 5),
		aCut(1, most), aCut(1, 0, most-1), aCut(2, 0, 0), aCut(128, 1, 2, 3, 4, 5, 6, 7, 8),
		aCut(most, most, most, most, most, most, most, most, most),
		aTrim(1, 0, 1, 0), aTrim(2, 5, 3, 40), aTrim(most-1, 5, 3, 40), aTrim(most, 5, 3, 40),
		aTrim(1, 1, 1, 1), aTrim(1, mostTag-1, 1, 0), aTrim(1, mostTag, 1, 0),
		aTrim(1, 0, mostTerm-1, 0), aTrim(1, 0, mostTerm, 0),
		aTrim(1, 0, 1, most-1), aTrim(1, 0, 1, most), aTrim(most, mostTag, mostTerm, most),
		{Number: 3, Kind: 2, Cut: []int{}, Upto: api.Seq{Term: 1}}, // an empty list is as good as none (R3)
	}
}

// wrongs are no entries, each by one thing alone.
func wrongs() []Entry {
	var l []Entry
	with := func(e Entry, change func(e *Entry)) {
		change(&e)
		l = append(l, e)
	}
	c, r := aCut(3, 4, 5), aTrim(3, 4, 5, 6)
	for _, n := range []int{0, -1, -most, most + 1, 1<<62 + 1, math.MinInt, math.MaxInt} {
		with(c, func(e *Entry) { e.Number = n })
		with(r, func(e *Entry) { e.Number = n })
		with(r, func(e *Entry) { e.Upto.Term = n })
	}
	for _, n := range []int{0, 3, -1, -2, 4, 256, 257, math.MinInt, math.MaxInt} {
		with(c, func(e *Entry) { e.Kind = n })
		with(r, func(e *Entry) { e.Kind = n })
	}
	with(c, func(e *Entry) { e.Kind = 2 })
	with(r, func(e *Entry) { e.Kind = 1 })
	for _, n := range []int{1, -1, mostTag, math.MinInt, math.MaxInt} {
		with(c, func(e *Entry) { e.Tag = n })
		with(c, func(e *Entry) { e.Upto.Term = n })
		with(c, func(e *Entry) { e.Upto.Pos = n })
	}
	with(c, func(e *Entry) { e.Upto = api.Seq{Term: 1, Pos: 1} })
	for _, v := range [][]int{
		nil, {}, {-1}, {most + 1}, {math.MinInt}, {math.MaxInt}, {4, -1}, {-1, 4}, {4, most + 1},
		make([]int, 9), {1, 2, 3, 4, 5, 6, 7, 8, 9}, make([]int, 100),
	} {
		with(c, func(e *Entry) { e.Cut = v })
	}
	for _, v := range [][]int{{0}, {1}, {-1}, {4, 5}, make([]int, 9)} {
		with(r, func(e *Entry) { e.Cut = v })
	}
	for _, n := range []int{-1, mostTag + 1, most, math.MinInt, math.MaxInt} {
		with(r, func(e *Entry) { e.Tag = n })
	}
	with(r, func(e *Entry) { e.Upto.Term = mostTerm + 1 })
	for _, n := range []int{-1, -most, most + 1, math.MinInt, math.MaxInt} {
		with(r, func(e *Entry) { e.Upto.Pos = n })
	}
	return append(l, Entry{})
}

// chance tells always the same numbers.
func chance() *rand.Rand { return rand.New(rand.NewPCG(5, 5)) }

// someEntry is a right one.
func someEntry(next *rand.Rand) Entry {
	number := 1 + next.IntN([]int{5, 300, most}[next.IntN(3)])
	if next.IntN(2) == 0 {
		return aTrim(number, next.IntN(mostTag+1), 1+next.IntN(mostTerm), next.IntN(most+1))
	}
	v := make([]int, 1+next.IntN(8))
	for k := range v {
		v[k] = next.IntN([]int{2, 300, most + 1}[next.IntN(3)])
	}
	return aCut(number, v...)
}

// numbers writes numbers just as pack's chapter tells it.
func numbers(l ...int) string {
	var b []byte
	for _, n := range l {
		b = binary.AppendUvarint(b, uint64(n))
	}
	return string(b)
}

// plain is what the chapter tells of an entry's bytes, ahead of the sum; also of one that is not right.
func plain(e Entry) string {
	s := numbers(e.Number, e.Kind)
	if e.Kind == 2 {
		return s + numbers(e.Tag, e.Upto.Term, e.Upto.Pos)
	}
	v := numbers(len(e.Cut)) + numbers(e.Cut...)
	return s + numbers(len(v)) + v
}

// summed is s, and a right sum behind it.
func summed(s string) []byte {
	return binary.LittleEndian.AppendUint32([]byte(s), crc32.ChecksumIEEE([]byte(s)))
}

// alike tells whether two entries have the same fields, without asking Same.
func alike(a, b Entry) bool {
	return a.Number == b.Number && a.Kind == b.Kind && slices.Equal(a.Cut, b.Cut) &&
		a.Tag == b.Tag && a.Upto.Term == b.Upto.Term && a.Upto.Pos == b.Upto.Pos
}

// wantEntry fails, if b is not that entry.
func wantEntry(t *testing.T, b []byte, want Entry) {
	t.Helper()
	if e, err := Decode(b); err != api.OK || !alike(e, want) {
		t.Fatalf("Decode(%x) = %v, %d, want %v", b, e, err, want)
	}
}

// wantRefused fails, if b is an entry, or is refused in another way.
func wantRefused(t *testing.T, b []byte, want api.Errno) {
	t.Helper()
	if e, err := Decode(b); err != want || e.Cut != nil || !alike(e, Entry{}) {
		t.Fatalf("Decode(%x) = %v, %d, want error %d", b, e, err, want)
	}
}

func TestRightEntries(t *testing.T) { // the chapter's word entry
	for i, e := range rights() {
		if !Right(e) {
			t.Errorf("%d: %v is not right", i, e)
		}
	}
	for i, e := range wrongs() {
		if Right(e) {
			t.Errorf("%d: %v is right", i, e)
		}
	}
}

func TestOneFieldDecides(t *testing.T) { // the chapter's word entry
	for n, want := range map[int]bool{0: false, 1: true, most - 1: true, most: true, most + 1: false, -1: false, math.MinInt: false, math.MaxInt: false} {
		if Right(aCut(n, 1)) != want || Right(aTrim(n, 1, 1, 1)) != want {
			t.Errorf("Number %d: want %v", n, want)
		}
		if Right(aTrim(1, 1, 1, n)) != (want || n == 0) || Right(aCut(1, 1, n)) != (want || n == 0) {
			t.Errorf("Pos, or of a Cut, %d: want %v", n, want || n == 0)
		}
	}
	for n, want := range map[int]bool{0: true, 1: true, mostTag - 1: true, mostTag: true, mostTag + 1: false, -1: false, math.MinInt: false, math.MaxInt: false} {
		if Right(aTrim(1, n, 1, 1)) != want {
			t.Errorf("Tag %d: want %v", n, want)
		}
	}
	for n, want := range map[int]bool{0: false, 1: true, mostTerm - 1: true, mostTerm: true, mostTerm + 1: false, -1: false, math.MinInt: false, math.MaxInt: false} {
		if Right(aTrim(1, 1, n, 1)) != want {
			t.Errorf("Term %d: want %v", n, want)
		}
	}
	for n := range 12 {
		if Right(aCut(1, make([]int, n)...)) != (n >= 1 && n <= 8) {
			t.Errorf("a Cut of %d shards: %v", n, n < 1 || n > 8)
		}
	}
	for kind := -3; kind < 10; kind++ {
		c, r := aCut(1, 1), aTrim(1, 1, 1, 1)
		c.Kind, r.Kind = kind, kind
		if Right(c) != (kind == 1) || Right(r) != (kind == 2) {
			t.Errorf("Kind %d: %v, %v", kind, Right(c), Right(r))
		}
	}
}

func TestEncodeOfKnownEntries(t *testing.T) { // P5.1
	top := "\x80\x80\x80\x80\x80\x20" // 2^40
	for _, c := range []struct {
		e    Entry
		want string
	}{
		{aCut(1, 0), "\x01\x01\x02\x01\x00"},
		{aCut(1, 3, 2), "\x01\x01\x03\x02\x03\x02"},
		{aCut(300, 1, 300), "\xac\x02\x01\x04\x02\x01\xac\x02"},
		{aCut(9, 1, 2, 3, 4, 5, 6, 7, 8), "\x09\x01\x09\x08\x01\x02\x03\x04\x05\x06\x07\x08"},
		{aCut(most, slices.Repeat([]int{most}, 8)...), top + "\x01\x31\x08" + strings.Repeat(top, 8)},
		{aTrim(1, 0, 1, 0), "\x01\x02\x00\x01\x00"},
		{aTrim(2, 5, 3, 300), "\x02\x02\x05\x03\xac\x02"},
		{aTrim(128, mostTag, mostTerm, most), "\x80\x01\x02\x80\x80\x80\x80\x04\x40" + top},
	} {
		want := summed(c.want)
		if b, err := Encode(c.e); err != api.OK || !bytes.Equal(b, want) {
			t.Errorf("Encode(%v) = %x, %d, want %x", c.e, b, err, want)
		}
		wantEntry(t, want, c.e)
	}
}

func TestTheSumStandsBehindLowestFirst(t *testing.T) { // P5.1
	want := "\x01\x02\x00\x01\x00\x67\x27\x50\x48"
	if b, err := Encode(aTrim(1, 0, 1, 0)); err != api.OK || string(b) != want {
		t.Errorf("Encode of a trim = %x, %d", b, err)
	}
	wantEntry(t, []byte(want), aTrim(1, 0, 1, 0))
	wantRefused(t, []byte("\x01\x02\x00\x01\x00\x48\x50\x27\x67"), api.ErrEntrySum)
}

func TestEncodeRefuses(t *testing.T) { // P5.1
	for i, e := range wrongs() {
		if b, err := Encode(e); err != api.ErrEntryForm || len(b) != 0 {
			t.Errorf("%d: Encode(%v) = %x, %d", i, e, b, err)
		}
	}
}

func TestDecodeRefusesAWrongSum(t *testing.T) { // P5.1
	wantRefused(t, nil, api.ErrEntrySum)
	for _, s := range []string{
		"", "\x00", "\x01", "\x00\x00\x00", // fewer bytes than a sum has
		"\x00\x00\x00\x01", "\x00\x00\x00\x00\x00", "\x01\x01\x02\x01\x00\x00\x00\x00\x00",
		"\xff", "no entry", strings.Repeat("\x80", 100),
	} {
		wantRefused(t, []byte(s), api.ErrEntrySum)
	}
	for _, e := range rights() {
		s := plain(e)
		wantRefused(t, []byte(s), api.ErrEntrySum)
		wantRefused(t, append(summed(s), 0), api.ErrEntrySum)
		wantRefused(t, append([]byte{0}, summed(s)...), api.ErrEntrySum)
		for n := range summed(s) { // which ends too soon
			if n > 0 {
				wantRefused(t, summed(s)[:n], api.ErrEntrySum)
			}
		}
	}
	for _, s := range []string{"\x00\x00", "\x01\x03\x00", "\x80"} { // the sum is asked first
		wantRefused(t, append([]byte(s), 1, 2, 3, 4), api.ErrEntrySum)
	}
}

func TestDecodeRefusesARightSumOfNoEntry(t *testing.T) { // P5.1
	over, top := "\x81\x80\x80\x80\x80\x20", "\xff\xff\xff\xff\xff\xff\xff\xff\x3f" // 2^40 and one more, 2^62 - 1 and more
	for _, s := range []string{
		"", "\x01", "\x80", "\x01\x80", // no more behind Number, Kind, or within
		"\x00\x01\x02\x01\x00", "\x00\x02\x00\x01\x00", // the Number 0
		over + "\x01\x02\x01\x00", over + "\x02\x00\x01\x00", top + "\x02\x00\x01\x00",
		"\x01\x00", "\x01\x00\x02\x01\x00", "\x01\x00\x00\x01\x00", // the Kind 0
		"\x01\x03", "\x01\x03\x02\x01\x00", "\x01\x03\x00\x01\x00", // the Kind 3
		"\x01\x81\x00\x02\x01\x00", "\x01\x82\x00\x00\x01\x00", "\x81\x00\x02\x00\x01\x00", // not as short as can be
		"\x01\x01\x00", "\x01\x01\x01\x00", "\x01\x01\x01\x01", // texts that are no vector
		"\x01\x01\x03\x01\x05\x05", "\x01\x01\x02\x02\x05", "\x01\x01\x03\x01\x85\x00", "\x01\x01\x07\x01" + over,
		"\x01\x01\x0a\x09\x00\x00\x00\x00\x00\x00\x00\x00\x00",
		"\x01\x01\x03\x01\x05", "\x01\x01\x82\x00\x01\x05", "\x01\x01\x01\x01\x05", // a text of another length
		"\x01\x01\x01\x05",                     // a cut without how many shards
		"\x01\x01\x02\x01\x00\x00",             // something behind
		"\x01\x01\x02\x01\x00\x00\x01\x00",     // a cut that has a trim's fields
		"\x01\x02\x02\x01\x00\x00\x01\x00",     // a trim that has a cut
		"\x01\x02\x00\x00\x00",                 // the Term 0
		"\x01\x02\x00\x41\x00",                 // MaxTerms and one more
		"\x01\x02\x81\x80\x80\x80\x04\x01\x00", // the Tag 2^30 and one more
		"\x01\x02\x00\x01" + over,
		"\x01\x02\x00\x01" + top, "\x01\x02\x00" + top + "\x00", "\x01\x02" + top + "\x01\x00",
		"\x01\x02\x00\x01\x80\x00", "\x01\x02\x80\x00\x01\x00", "\x01\x02\x00\x81\x00\x00",
		"no entry",
	} {
		wantRefused(t, summed(s), api.ErrEntryForm)
	}
}

func TestDecodeRefusesWhatEncodeRefuses(t *testing.T) { // P5.1
	refused := 0
	for _, e := range wrongs() {
		if slices.Min(append([]int{e.Number, e.Kind, e.Tag, e.Upto.Term, e.Upto.Pos}, e.Cut...)) < 0 {
			continue // there are no bytes of it
		}
		written := Entry{Number: e.Number, Kind: e.Kind, Cut: e.Cut}
		if e.Kind == 2 {
			written = aTrim(e.Number, e.Tag, e.Upto.Term, e.Upto.Pos)
		}
		if alike(e, written) { // else the bytes are those of another one, that may be right
			wantRefused(t, summed(plain(e)), api.ErrEntryForm)
			refused++
		}
	}
	if refused < 20 {
		t.Errorf("%d were refused", refused)
	}
}

func TestDecodeTakesNeitherFewerBytesNorMore(t *testing.T) { // P5.1
	for _, e := range rights() {
		s := plain(e)
		for n := range s {
			wantRefused(t, summed(s[:n]), api.ErrEntryForm)
		}
		for _, behind := range []string{"\x00", "\x01", "\x80", "behind", s} {
			wantRefused(t, summed(s+behind), api.ErrEntryForm)
		}
	}
}

func TestWhatIsDecodedIsEncodedSo(t *testing.T) { // P5.1, R1
	next := chance()
	entries := 0
	for range 200000 {
		b := make([]byte, next.IntN(12))
		for i := range b {
			b[i] = []byte{0, 1, 2, 3, 5, 9, 0x7f, 0x80, byte(next.IntN(256))}[next.IntN(9)]
		}
		b = summed(string(b))
		e, err := Decode(b)
		if err != api.OK {
			wantRefused(t, b, api.ErrEntryForm)
			continue
		}
		entries++
		if again, err := Encode(e); err != api.OK || !bytes.Equal(again, b) {
			t.Fatalf("Decode(%x) = %v, which is encoded %x, %d", b, e, again, err)
		}
	}
	if entries < 500 {
		t.Errorf("%d entries", entries)
	}
}

func TestSame(t *testing.T) { // P5.2
	whole := Entry{Number: 1, Kind: 2, Cut: []int{3, 4}, Tag: 5, Upto: api.Seq{Term: 6, Pos: 7}} // all fields, though it is not right
	if again := whole; !Same(whole, again) {
		t.Error("one entry is not the same")
	}
	for i, change := range []func(e *Entry){
		func(e *Entry) { *e = Entry{} },
		func(e *Entry) { e.Number = 2 }, func(e *Entry) { e.Kind = 1 }, func(e *Entry) { e.Tag = 0 },
		func(e *Entry) { e.Upto.Term = 7 }, func(e *Entry) { e.Upto.Pos = 6 }, func(e *Entry) { e.Upto = api.Seq{Term: 7, Pos: 6} },
		func(e *Entry) { e.Cut = nil }, func(e *Entry) { e.Cut = []int{3} }, func(e *Entry) { e.Cut = []int{4, 3} },
		func(e *Entry) { e.Cut = []int{3, 5} }, func(e *Entry) { e.Cut = []int{3, 4, 0} },
	} {
		other := whole
		change(&other)
		if Same(whole, other) || Same(other, whole) {
			t.Errorf("%d: %v is the same as %v", i, other, whole)
		}
	}
	if !Same(Entry{}, Entry{Cut: []int{}}) || !Same(Entry{Cut: []int{}}, Entry{}) { // R3
		t.Error("an empty list is not as good as none")
	}
}

func TestSameOfAll(t *testing.T) { // P5.2
	all := append(rights(), wrongs()...)
	for i, a := range all {
		for k, b := range all {
			if Same(a, b) != alike(a, b) || i == k && !Same(a, b) {
				t.Errorf("Same(%v, %v) = %v", a, b, Same(a, b))
			}
		}
	}
}

// aChain is one of n entries, mostly cuts of that many shards.
func aChain(next *rand.Rand, n, shards int) []Entry {
	var l []Entry
	v := make([]int, shards)
	for number := 1; number <= n; number++ {
		if next.IntN(3) == 0 {
			l = append(l, aTrim(number, next.IntN(5), 1+next.IntN(3), next.IntN(50)))
			continue
		}
		v = slices.Clone(v)
		for k := range v {
			v[k] += next.IntN(4)
		}
		l = append(l, aCut(number, v...))
	}
	return l
}

func TestChain(t *testing.T) { // P5.2
	top := most - 1
	for i, c := range []struct {
		l    []Entry
		want int
	}{
		{nil, 0}, {[]Entry{}, 0},
		{[]Entry{aCut(1, 0)}, 1}, {[]Entry{aCut(1, 3, 2)}, 1}, {[]Entry{aTrim(1, 5, 1, 0)}, 1},
		{[]Entry{aCut(1, 1, 2), aCut(2, 3, 2), aCut(3, 3, 4)}, 3},
		{[]Entry{aCut(1, 1), aCut(2, 1), aCut(3, 1)}, 3}, // the same cut covers
		{[]Entry{aTrim(1, 5, 1, 0), aTrim(2, 4, 1, 0), aTrim(3, 5, 1, 9)}, 3},
		{[]Entry{aTrim(1, 5, 1, 0), aCut(2, 1, 1), aTrim(3, 5, 9, 9), aCut(4, 2, 1)}, 4},
		{[]Entry{aCut(1, top), aCut(2, most), aTrim(3, mostTag, mostTerm, most)}, 3},
		// the first one has the Number 1
		{[]Entry{aCut(2, 1)}, 0}, {[]Entry{aCut(2, 1), aCut(3, 1)}, 0}, {[]Entry{aTrim(2, 0, 1, 0)}, 0}, {[]Entry{aCut(2, 1), aCut(1, 1), aCut(2, 1)}, 0},
		{[]Entry{aCut(0, 1), aCut(1, 1)}, 0}, {[]Entry{aCut(-1, 1)}, 0}, {[]Entry{aCut(most, 1)}, 0}, {[]Entry{aCut(math.MinInt, 1)}, 0},
		// each other one the next
		{[]Entry{aCut(1, 1), aCut(1, 1)}, 1}, {[]Entry{aCut(1, 1), aCut(3, 1)}, 1}, {[]Entry{aCut(1, 1), aCut(2, 1), aCut(4, 1)}, 2},
		{[]Entry{aCut(1, 1), aCut(2, 1), aCut(2, 1), aCut(3, 1)}, 2}, {[]Entry{aTrim(1, 0, 1, 0), aTrim(3, 0, 1, 0)}, 1},
		{[]Entry{aCut(1, 1), aCut(2, 1), aCut(1, 1)}, 2}, {[]Entry{aCut(1, 1), aCut(0, 1)}, 1},
		// covers the last cut
		{[]Entry{aCut(1, 5), aCut(2, 4), aCut(3, 6)}, 1}, {[]Entry{aCut(1, 1, 5), aCut(2, 9, 4)}, 1}, {[]Entry{aCut(1, 5, 1), aCut(2, 4, 9)}, 1},
		{[]Entry{aCut(1, 1), aCut(2, 5), aCut(3, 3)}, 2}, // the last one, not the first one
		{[]Entry{aCut(1, 5), aTrim(2, 0, 1, 0), aCut(3, 4)}, 2},
		{[]Entry{aTrim(1, 0, 1, 0), aCut(2, 5), aTrim(3, 0, 1, 0), aTrim(4, 0, 1, 0), aCut(5, 4)}, 4},
		{[]Entry{aCut(1, 5), aTrim(2, 0, 1, 0), aCut(3, 5)}, 3},
		{[]Entry{aCut(1, 0), aCut(2, 0, 0)}, 1}, {[]Entry{aCut(1, 0, 0), aCut(2, 9)}, 1}, // another kind of vector
		{[]Entry{aCut(1, 0), aTrim(2, 0, 1, 0), aCut(3, 0, 0)}, 2},
		// all are right
		{[]Entry{{}}, 0}, {[]Entry{aCut(1)}, 0}, {[]Entry{aCut(1, -1)}, 0}, {[]Entry{aTrim(1, 0, 0, 0)}, 0},
		{[]Entry{{Number: 1, Kind: 3}}, 0}, {[]Entry{{Number: 1}}, 0},
		{[]Entry{aCut(1, 1), {Number: 2, Kind: 1, Cut: []int{2}, Tag: 1}, aCut(3, 3)}, 1},
		{[]Entry{aCut(1, 1), aCut(2, most+1)}, 1}, {[]Entry{aCut(1, 1), {Number: 2, Cut: []int{2}}}, 1},
		{[]Entry{aTrim(1, 0, 1, 0), aTrim(2, 0, mostTerm+1, 0)}, 1},
		{[]Entry{aTrim(1, 0, 1, 0), {Number: 2, Kind: 2, Cut: []int{1}, Upto: api.Seq{Term: 1}}}, 1},
	} {
		if n := Chain(c.l); n != c.want {
			t.Errorf("%d: Chain(%v) = %d, want %d", i, c.l, n, c.want)
		}
	}
}

func TestChainEndsAtEachWrongEntry(t *testing.T) { // P5.2
	l := []Entry{aCut(1, 1, 1), aTrim(2, 5, 1, 0), aCut(3, 4, 5), aTrim(4, 5, 1, 0), aCut(5, 4, 6)}
	for at := range l {
		for _, e := range wrongs() {
			if e.Number == 3 {
				e.Number = at + 1 // so that the Number is not what ends it
			}
			bad := slices.Clone(l)
			bad[at] = e
			if n := Chain(bad); n != at {
				t.Errorf("Chain(%v) = %d, want %d", bad, n, at)
			}
		}
	}
}

func TestLast(t *testing.T) { // P5.2
	for i, c := range []struct {
		l      []Entry
		shards int
		want   []int
	}{
		{nil, 2, []int{0, 0}}, {nil, 0, nil}, {nil, 1, []int{0}}, {nil, 8, make([]int, 8)}, {nil, 9, nil}, {nil, -1, nil},
		{nil, math.MinInt, nil}, {nil, math.MaxInt, nil},
		{[]Entry{}, 3, []int{0, 0, 0}},
		{[]Entry{aTrim(1, 5, 1, 7)}, 0, nil}, {[]Entry{aTrim(1, 5, 1, 7)}, 1, []int{0}},
		{[]Entry{aTrim(1, 5, 1, 7)}, 8, make([]int, 8)}, {[]Entry{aTrim(1, 5, 1, 7)}, 9, nil},
		{[]Entry{aCut(2, 5)}, 1, []int{0}}, {[]Entry{aCut(2, 5)}, 9, nil}, // no chain
		{[]Entry{aCut(1, 5, -1)}, 2, []int{0, 0}}, {[]Entry{aTrim(1, 0, 1, 0), aCut(3, 5)}, 2, []int{0, 0}},
		{[]Entry{aCut(1, 0)}, 2, []int{0}}, // the cut's own shards count
		{[]Entry{aCut(1, 3, 2)}, 2, []int{3, 2}}, {[]Entry{aCut(1, 3, 2)}, 0, []int{3, 2}}, {[]Entry{aCut(1, 3, 2)}, 9, []int{3, 2}},
		{[]Entry{aCut(1, 3, 2)}, 1, []int{3, 2}}, {[]Entry{aCut(1, 3, 2)}, -1, []int{3, 2}},
		{[]Entry{aCut(1, 1, 2), aCut(2, 3, 2), aCut(3, 3, 4)}, 2, []int{3, 4}},
		{[]Entry{aCut(1, 1, 2), aTrim(2, 0, 1, 0)}, 2, []int{1, 2}},
		{[]Entry{aTrim(1, 0, 1, 0), aCut(2, 1, 2), aTrim(3, 0, 1, 0), aCut(4, 1, 3), aTrim(5, 0, 1, 0)}, 2, []int{1, 3}},
		{[]Entry{aCut(1, 1, 2), aCut(2, 0, 9), aCut(3, 3, 4)}, 2, []int{1, 2}}, // of the chain alone
		{[]Entry{aCut(1, 1, 2), aCut(3, 3, 4)}, 2, []int{1, 2}},
		{[]Entry{aCut(1, 1, 2), aCut(2, 3, 4, 5)}, 2, []int{1, 2}},
		{[]Entry{aCut(1, 1, 2), aTrim(2, 0, 0, 0), aCut(3, 3, 4)}, 2, []int{1, 2}},
	} {
		if v := Last(c.l, c.shards); !slices.Equal(v, c.want) {
			t.Errorf("%d: Last(%v, %d) = %v, want %v", i, c.l, c.shards, v, c.want)
		}
	}
}

func TestDecodeOfEncode(t *testing.T) { // P5.3
	next := chance()
	l := rights()
	for range 3000 {
		l = append(l, someEntry(next))
	}
	for _, e := range l {
		b, err := Encode(e)
		if err != api.OK || !bytes.Equal(b, summed(plain(e))) {
			t.Fatalf("Encode(%v) = %x, %d", e, b, err)
		}
		wantEntry(t, b, e)
	}
}

func TestEachByteTurned(t *testing.T) { // P5.3, P1.3
	for _, e := range rights() {
		b, _ := Encode(e)
		for at := range b {
			for turn := 1; turn < 256; turn++ {
				c := bytes.Clone(b)
				c[at] ^= byte(turn)
				wantRefused(t, c, api.ErrEntrySum)
			}
		}
	}
}

func TestEachBeginningOfAChainIsAChain(t *testing.T) { // P5.3
	next := chance()
	for range 300 {
		n := next.IntN(40)
		l := aChain(next, n, 1+next.IntN(8))
		for k := range n + 1 {
			if got := Chain(l[:k]); got != k {
				t.Fatalf("Chain(%v) = %d, want %d", l[:k], got, k)
			}
		}
		if n > 0 { // and what comes behind an end is not asked
			at := next.IntN(n)
			l[at].Number++
			if got := Chain(l); got != at {
				t.Fatalf("Chain(%v) = %d, want %d", l, got, at)
			}
		}
	}
}

func TestLastHasAllThatCutsAheadHave(t *testing.T) { // P5.3
	next := chance()
	total := func(v []int) int {
		sum := 0
		for _, n := range v {
			sum += n
		}
		return sum
	}
	for range 300 {
		shards := 1 + next.IntN(8)
		l := aChain(next, 40, shards)
		for range next.IntN(4) { // some are no chains as a whole
			e := &l[next.IntN(len(l))]
			if e.Kind == 1 {
				e.Cut[next.IntN(shards)] = next.IntN(60)
			}
		}
		want, high := make([]int, shards), 0
		for k := range l {
			if k < Chain(l) && l[k].Kind == 1 {
				want = l[k].Cut
			}
			got := Last(l[:k+1], shards)
			if !slices.Equal(got, want) || total(got) < high {
				t.Fatalf("Last(%v) = %v, want %v, not below %d", l[:k+1], got, want, high)
			}
			high = total(got)
		}
	}
}

func TestALongChain(t *testing.T) { // P5.2, R1
	l := aChain(chance(), 20000, 8)
	if n := Chain(l); n != len(l) {
		t.Errorf("Chain = %d", n)
	}
}

func TestWhatIsHandedInStays(t *testing.T) { // R5
	whole := []int{3, 5, 7}
	e := Entry{Number: 1, Kind: 1, Cut: whole[:2]} // has room behind it, that is not the entry's
	l := []Entry{e, aTrim(2, 5, 1, 0), aCut(3, 3, 6)}
	Right(e)
	b, _ := Encode(e)
	Same(e, l[2])
	Chain(l)
	_ = append(Last(l[:1], 2), 77)
	if !slices.Equal(whole, []int{3, 5, 7}) || !alike(l[0], aCut(1, 3, 5)) || !alike(l[1], aTrim(2, 5, 1, 0)) || !alike(l[2], aCut(3, 3, 6)) {
		t.Errorf("they are %v, %v now", whole, l)
	}
	room := append(bytes.Clone(b), "behind"...)
	Decode(room[:len(b)])
	Decode(room)
	if !bytes.Equal(room[:len(b)], b) || string(room[len(b):]) != "behind" {
		t.Errorf("the bytes are %x now", room)
	}
}

func TestWhatIsToldIsTheCallersOwn(t *testing.T) { // R6
	e := aCut(1, 3, 5)
	b, _ := Encode(e)
	other, _ := Encode(e)
	one, _ := Decode(b)
	two, _ := Decode(b)
	l := []Entry{e}
	last, again, zero := Last(l, 2), Last(l, 2), Last(nil, 2)
	e.Cut[0] = 77
	clear(b)
	one.Cut[1] = 78
	last[0] = 79
	zero[0] = 80
	if !bytes.Equal(other, summed(plain(aCut(1, 3, 5)))) || !alike(two, aCut(1, 3, 5)) || !alike(one, aCut(1, 3, 78)) {
		t.Errorf("they share: %x, %v, %v", other, one, two)
	}
	if !slices.Equal(again, []int{3, 5}) || !alike(l[0], aCut(1, 77, 5)) || !slices.Equal(Last(nil, 2), []int{0, 0}) {
		t.Errorf("cuts share: %v, %v, %v", again, l, Last(nil, 2))
	}
}
