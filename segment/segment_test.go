package segment

import (
	"bytes"
	"encoding/binary"
	"hash/crc32"
	"math"
	"math/rand/v2"
	"slices"
	"strings"
	"testing"

	"carabiner/api"
	"carabiner/page"
	"carabiner/record"
)

// summed is b, and its sum behind it, as the chapters tell it.
func summed(b []byte) []byte {
	return binary.LittleEndian.AppendUint32(bytes.Clone(b), crc32.ChecksumIEEE(b))
}

// nums are numbers as bytes.
func nums(l ...int) []byte {
	var b []byte
	for _, n := range l {
		b = binary.AppendUvarint(b, uint64(n))
	}
	return b
}

// row is one frame of a store behind the other.
func row(l ...[]byte) []byte {
	var b []byte
	for _, text := range l {
		b = append(b, summed(append(nums(len(text)), text...))...)
	}
	return b
}

// encoded is a record's bytes, as its chapter tells them.
func encoded(r api.Record) []byte {
	b := nums(r.Id.Client, r.Id.Number, len(r.Tags))
	b = append(b, nums(r.Tags...)...)
	return summed(append(append(b, nums(len(r.Data))...), r.Data...))
}

// kept is what a record's frame has.
func kept(r api.Record) []byte { return append([]byte{1}, encoded(r)...) }

// trim is what a trim's frame has.
func trim(upto int) []byte { return append([]byte{2}, nums(upto)...) }

// rec is a record of its own for each number, some with tags and some without.
func rec(n int) api.Record {
	r := api.Record{Id: api.Id{Client: n % 5, Number: n}, Data: strings.Repeat("d", n%7)}
	for tag := range n % (api.MaxTags + 1) {
		r.Tags = append(r.Tags, 1+tag*tag+n)
	}
	return r
}

// recs are the first ones of them.
func recs(n int) []api.Record {
	var l []api.Record
	for i := range n {
		l = append(l, rec(i))
	}
	return l
}

// frames are those of records.
func frames(l []api.Record) [][]byte {
	var out [][]byte
	for _, r := range l {
		out = append(out, kept(r))
	}
	return out
}

// opened is the segment of these frames, and its store.
func opened(l ...[]byte) (*Segment, *page.Store) {
	s := page.New(row(l...))
	return Open(s), s
}

// state is what a segment should have.
type state struct {
	all           []api.Record
	trimmed, safe int
}

// wantSegment fails, if a segment does not tell that it has just w.
func wantSegment(t *testing.T, g *Segment, w state) {
	t.Helper()
	if g.Len() != len(w.all) || g.Trimmed() != w.trimmed || g.Safe() != w.safe {
		t.Fatalf("Len, Trimmed, Safe = %d, %d, %d, want %d, %d, %d", g.Len(), g.Trimmed(), g.Safe(), len(w.all), w.trimmed, w.safe)
	}
	if l := g.All(); !slices.EqualFunc(l, w.all[w.trimmed:], record.Same) {
		t.Fatalf("All = %v, want %v", l, w.all[w.trimmed:])
	}
	for _, local := range []int{math.MinInt, -1, len(w.all), len(w.all) + 1, math.MaxInt} {
		wantGet(t, g, local, api.Record{}, api.ErrSegmentNone)
	}
	for local, r := range w.all {
		if local < w.trimmed {
			wantGet(t, g, local, api.Record{}, api.ErrSegmentGone)
		} else {
			wantGet(t, g, local, r, api.OK)
		}
	}
}

// wantGet fails, if not just that is told of a local number.
func wantGet(t *testing.T, g *Segment, local int, want api.Record, e api.Errno) {
	t.Helper()
	r, err := g.Get(local)
	if err != e || !record.Same(r, want) {
		t.Fatalf("Get(%d) = %v, %d, want %v, %d", local, r, err, want, e)
	}
}

// wantAppend fails, if an Append is not answered so.
func wantAppend(t *testing.T, g *Segment, local int, r api.Record, want api.Errno) {
	t.Helper()
	if err := g.Append(local, r); err != want {
		t.Fatalf("Append(%d, %v) = %d, want %d", local, r, err, want)
	}
}

// wantTrim fails, if a Trim is not answered so.
func wantTrim(t *testing.T, g *Segment, upto int, want api.Errno) {
	t.Helper()
	if err := g.Trim(upto); err != want {
		t.Fatalf("Trim(%d) = %d, want %d", upto, err, want)
	}
}

// wantFrames fails, if a store has not just these frames, byte by byte.
func wantFrames(t *testing.T, s *page.Store, l ...[]byte) {
	t.Helper()
	if !slices.EqualFunc(s.Frames(), l, bytes.Equal) {
		t.Fatalf("the store has %x, want %x", s.Frames(), l)
	}
}

// wrongRecords are those that are not right.
func wrongRecords() []api.Record {
	return []api.Record{
		{Id: api.Id{Client: -1}}, {Id: api.Id{Number: api.MaxCount + 1}}, {Tags: []int{0}}, {Tags: []int{2, 2}},
		{Tags: []int{1, 2, 3, 4, 5, 6, 7, 8, 9}}, {Data: strings.Repeat("x", api.MaxData+1)},
	}
}

func TestExamplesOfTheChapter(t *testing.T) { // P9.2
	g := Open(page.New(nil))
	wantAppend(t, g, 0, rec(0), api.OK)
	wantAppend(t, g, 2, rec(1), api.ErrSegmentNone)
	wantAppend(t, g, 0, rec(1), api.ErrArg)
	wantSegment(t, g, state{recs(1), 0, 0})
	wantTrim(t, g, 1, api.OK)
	wantGet(t, g, 0, api.Record{}, api.ErrSegmentGone)
	wantSegment(t, g, state{recs(1), 1, 0})
}

func TestKnownBytes(t *testing.T) { // P9.1, P9.2
	s := page.New(nil)
	g := Open(s)
	r := api.Record{Id: api.Id{Client: 1, Number: 300}, Tags: []int{3, 200}, Data: "ab"}
	wantAppend(t, g, 0, r, api.OK)
	wantTrim(t, g, 1, api.OK)
	wantFrames(t, s, []byte("\x01\x01\xac\x02\x02\x03\xc8\x01\x02ab\xc9\x5c\xf1\xe0"), []byte("\x02\x01"))
}

func TestOpenOfAnEmptyStore(t *testing.T) { // P9.1
	s := page.New(nil)
	g := Open(s)
	wantSegment(t, g, state{})
	wantFrames(t, s)
	wantTrim(t, g, 0, api.OK)
	wantTrim(t, g, 1, api.ErrArg)
	wantFrames(t, s)
	g.Sync()
	g.Crash(0)
	wantSegment(t, g, state{})
	wantAppend(t, g, 0, rec(0), api.OK)
	wantSegment(t, g, state{recs(1), 0, 0})
}

func TestOpenOfRecordsAndTrims(t *testing.T) { // P9.1
	for _, c := range []struct {
		order   string // r a record, a digit a trim
		trimmed int
	}{
		{"r", 0}, {"rrr", 0}, {"0", 0}, {"000", 0}, {"0r0r0", 0}, {"r1", 1}, {"r1r", 1}, {"rr1r2r2r25", 5},
		{"rrr123", 3}, {"rrr3rrr", 3}, {"rrrrr5r6r7", 7}, {"r01r12", 2}, {"rrrr22", 2},
		{"1", 0}, {"0r2", 0}, {"rr1r4", 1}, {"rrr39", 3}, {"rr28", 2},
	} {
		var l [][]byte
		n := 0
		whole := true
		for _, kind := range c.order {
			switch upto := int(kind - '0'); {
			case kind == 'r':
				l = append(l, kept(rec(n)))
				n++
			case upto > n:
				whole = false // a trim above how many there are: behind it nothing is
				l = append(l, trim(upto))
			default:
				l = append(l, trim(upto))
			}
		}
		g, s := opened(l...)
		wantSegment(t, g, state{recs(n), c.trimmed, n})
		wantFrames(t, s, l...)
		if whole {
			wantAppend(t, g, n, rec(n), api.OK)
			wantSegment(t, g, state{recs(n + 1), c.trimmed, n})
			wantFrames(t, s, append(slices.Clone(l), kept(rec(n)))...)
		} else {
			wantAppend(t, g, n, rec(n), api.ErrSegmentFull)
		}
	}
}

// wrongFrames have neither a record nor a trim, where there are 3 records, of which 1 is trimmed.
func wrongFrames() [][]byte {
	right := kept(rec(3))
	turned := bytes.Clone(right)
	turned[2] ^= 1
	l := [][]byte{
		nil, {0}, {3}, {255}, {1}, {2}, encoded(rec(3)),
		append([]byte{0}, encoded(rec(3))...), append([]byte{2}, encoded(rec(3))...), append([]byte{3}, encoded(rec(3))...),
		append(bytes.Clone(right), 0), right[:len(right)-1], turned,
		append([]byte{1}, summed(append(nums(1, 2, 0, 0), 0))...), // a right sum, and a byte behind the record
		{1, 1}, {1, 2}, append([]byte{1}, trim(1)...),
		{2, 0x81, 0}, {2, 0x82, 0x80, 0}, {2, 0x80}, {2, 1, 0}, {2, 1, 1}, append(trim(2), trim(2)...),
		trim(4), trim(5), trim(api.MaxCount), trim(1 << 62), bytes.Repeat([]byte{2, 0xff}, 6), trim(0), {0, 1}, {3, 1}, {0, 2}, {6, 1}, {66, 1},
	}
	for _, r := range wrongRecords() {
		l = append(l, kept(r))
	}
	return l
}

func TestOpenStopsAtAFrameThatIsNeither(t *testing.T) { // P9.1, P9.2
	ahead := [][]byte{kept(rec(0)), trim(1), kept(rec(1)), kept(rec(2))}
	for i, wrong := range wrongFrames() {
		for _, behind := range [][][]byte{nil, {kept(rec(3))}, {trim(2)}, {trim(3), kept(rec(3)), trim(4)}} {
			l := slices.Concat(ahead, [][]byte{wrong}, behind)
			g, s := opened(l...)
			want := state{recs(3), 1, 3}
			if g.Len() != 3 {
				t.Fatalf("frame %d: %x counts", i, wrong)
			}
			wantSegment(t, g, want)
			wantBroken(t, g)
			wantSegment(t, g, want)
			wantFrames(t, s, l...)
			g.Sync()
			wantSegment(t, g, want)
			g.Crash(math.MaxInt)
			wantSegment(t, g, want)
			wantBroken(t, g)
		}
	}
}

// wantBroken fails, if a segment of 3 records, of which 1 is trimmed, takes more, or tells otherwise what it should.
func wantBroken(t *testing.T, g *Segment) {
	t.Helper()
	wantAppend(t, g, 3, rec(3), api.ErrSegmentFull)
	wantAppend(t, g, 4, rec(3), api.ErrSegmentNone)
	wantAppend(t, g, -1, rec(3), api.ErrArg)
	wantAppend(t, g, 2, rec(2), api.OK)
	wantAppend(t, g, 2, rec(3), api.ErrArg)
	wantAppend(t, g, 0, rec(3), api.OK)
	for _, r := range wrongRecords() {
		wantAppend(t, g, 3, r, api.ErrArg)
		wantAppend(t, g, 0, r, api.ErrArg)
	}
	wantTrim(t, g, -1, api.ErrArg)
	wantTrim(t, g, 0, api.OK)
	wantTrim(t, g, 1, api.OK)
	wantTrim(t, g, 2, api.ErrSegmentFull)
	wantTrim(t, g, 3, api.ErrSegmentFull)
	wantTrim(t, g, 4, api.ErrArg)
}

func TestTheFirstFrameIsNeither(t *testing.T) { // P9.1
	for _, wrong := range append(wrongFrames(), trim(1), trim(2), trim(3)) {
		if bytes.Equal(wrong, trim(0)) {
			continue // this is one, if nothing is trimmed
		}
		g, s := opened(wrong, kept(rec(0)), trim(1))
		wantSegment(t, g, state{})
		wantAppend(t, g, 0, rec(0), api.ErrSegmentFull)
		wantAppend(t, g, 1, rec(0), api.ErrSegmentNone)
		wantTrim(t, g, 0, api.OK)
		wantTrim(t, g, 1, api.ErrArg)
		wantFrames(t, s, wrong, kept(rec(0)), trim(1))
	}
}

func TestABrokenSegmentOfAStoreWithoutRoomOrOff(t *testing.T) { // P9.2
	g, s := opened(kept(rec(0)), kept(rec(1)), []byte{9}, make([]byte, 65000))
	s.Append(make([]byte, api.MaxPage-s.Len()-7))
	for _, off := range []bool{true, false} {
		s.Off(off)
		wantAppend(t, g, 2, rec(2), api.ErrSegmentFull)
		wantTrim(t, g, 1, api.ErrSegmentFull)
	}
	wantSegment(t, g, state{recs(2), 0, 2})
}

func TestACrashMendsWhatWasNotSynced(t *testing.T) { // P9.3
	s := page.New(row(kept(rec(0))))
	s.Append([]byte("neither"))
	s.Append(kept(rec(1)))
	g := Open(s)
	wantSegment(t, g, state{recs(1), 0, 1})
	wantAppend(t, g, 1, rec(1), api.ErrSegmentFull)
	g.Crash(0)
	wantSegment(t, g, state{recs(1), 0, 1})
	wantAppend(t, g, 1, rec(1), api.OK)
	wantSegment(t, g, state{recs(2), 0, 1})
}

// ordinary has 6 records, of which 3 are trimmed and 4 are safe.
func ordinary(t *testing.T) (*Segment, *page.Store) {
	t.Helper()
	s := page.New(nil)
	g := Open(s)
	for i := range 6 {
		if i == 4 {
			g.Sync()
		}
		wantAppend(t, g, i, rec(i), api.OK)
	}
	wantTrim(t, g, 3, api.OK)
	wantSegment(t, g, state{recs(6), 3, 4})
	return g, s
}

func TestAppendAtEveryNumber(t *testing.T) { // P9.2
	g, s := ordinary(t)
	l, want := s.Frames(), state{recs(6), 3, 4}
	other := rec(5)
	other.Data = "other"
	for local := -3; local < 10; local++ {
		for i, r := range append(recs(8), other) {
			switch {
			case local < 0:
				wantAppend(t, g, local, r, api.ErrArg)
			case local < 3: // trimmed: any right one
				wantAppend(t, g, local, r, api.OK)
			case local < 6 && i == local:
				wantAppend(t, g, local, r, api.OK)
			case local < 6:
				wantAppend(t, g, local, r, api.ErrArg)
			case local > 6:
				wantAppend(t, g, local, r, api.ErrSegmentNone)
			}
		}
		for _, r := range wrongRecords() {
			wantAppend(t, g, local, r, api.ErrArg)
		}
	}
	for _, local := range []int{math.MinInt, -1 << 40, 1 << 40, math.MaxInt} {
		want := api.ErrSegmentNone
		if local < 0 {
			want = api.ErrArg
		}
		wantAppend(t, g, local, rec(6), want)
		wantAppend(t, g, local, wrongRecords()[0], api.ErrArg)
	}
	wantSegment(t, g, want)
	wantFrames(t, s, l...)
	wantAppend(t, g, 6, other, api.OK)
	wantSegment(t, g, state{append(recs(6), other), 3, 4})
	wantFrames(t, s, append(l, kept(other))...)
}

func TestAnotherRecordByEachOfItsFields(t *testing.T) { // P9.2
	g := Open(page.New(nil))
	r := api.Record{Id: api.Id{Client: 1, Number: 2}, Tags: []int{3, 4}, Data: "ab"}
	wantAppend(t, g, 0, r, api.OK)
	for _, other := range []api.Record{
		{}, {Id: api.Id{Client: 2, Number: 2}, Tags: r.Tags, Data: r.Data}, {Id: api.Id{Client: 1, Number: 3}, Tags: r.Tags, Data: r.Data},
		{Id: r.Id, Tags: []int{3}, Data: r.Data}, {Id: r.Id, Tags: []int{3, 5}, Data: r.Data}, {Id: r.Id, Data: r.Data},
		{Id: r.Id, Tags: r.Tags, Data: "ac"}, {Id: r.Id, Tags: r.Tags}, {Id: r.Id, Tags: r.Tags, Data: "abc"},
	} {
		wantAppend(t, g, 0, other, api.ErrArg)
	}
	wantAppend(t, g, 0, api.Record{Id: r.Id, Tags: []int{3, 4}, Data: "ab"}, api.OK)
	wantSegment(t, g, state{[]api.Record{r}, 0, 0})
}

func TestASegmentOfMaxRecords(t *testing.T) { // P9.2
	s := page.New(nil)
	g := Open(s)
	for i := range api.MaxRecords {
		wantAppend(t, g, i, rec(i), api.OK)
	}
	all := recs(api.MaxRecords)
	wantFull := func(trimmed, safe int) {
		t.Helper()
		before := s.Len()
		wantAppend(t, g, api.MaxRecords, rec(api.MaxRecords), api.ErrSegmentFull)
		wantAppend(t, g, api.MaxRecords, wrongRecords()[0], api.ErrArg)
		wantAppend(t, g, api.MaxRecords+1, rec(0), api.ErrSegmentNone)
		wantAppend(t, g, api.MaxRecords-1, rec(api.MaxRecords-1), api.OK)
		s.Off(true)
		wantAppend(t, g, api.MaxRecords, rec(api.MaxRecords), api.ErrSegmentFull) // told ahead of the store's
		s.Off(false)
		wantSegment(t, g, state{all, trimmed, safe})
		if s.Len() != before {
			t.Fatalf("the store has %d bytes, had %d", s.Len(), before)
		}
	}
	wantFull(0, 0)
	g.Sync()
	wantFull(0, api.MaxRecords)
	wantTrim(t, g, 100, api.OK) // what is trimmed counts too
	wantFull(100, api.MaxRecords)
	g.Crash(math.MaxInt)
	wantFull(100, api.MaxRecords)
	wantTrim(t, g, api.MaxRecords+1, api.ErrArg)
	wantTrim(t, g, api.MaxRecords, api.OK)
	wantAppend(t, g, api.MaxRecords, rec(0), api.ErrSegmentFull)
	wantAppend(t, g, api.MaxRecords-1, rec(0), api.OK)
	wantSegment(t, g, state{all, api.MaxRecords, api.MaxRecords})
}

func TestAStoreOfMoreThanMaxRecords(t *testing.T) { // P9.1
	for _, n := range []int{api.MaxRecords - 1, api.MaxRecords, api.MaxRecords + 1, api.MaxRecords + 200} {
		g, s := opened(append(frames(recs(n)), trim(n-1))...)
		want := state{recs(n), n - 1, n}
		wantSegment(t, g, want)
		if n >= api.MaxRecords {
			wantAppend(t, g, n, rec(n), api.ErrSegmentFull)
			wantSegment(t, g, want)
			wantTrim(t, g, n, api.OK)
			continue
		}
		wantAppend(t, g, n, rec(n), api.OK)
		wantAppend(t, g, n+1, rec(n), api.ErrSegmentFull)
		wantFrames(t, s, append(append(frames(recs(n)), trim(n-1)), kept(rec(n)))...)
	}
}

func TestAStoreWithoutRoom(t *testing.T) { // P9.2
	big := api.Record{Data: strings.Repeat("b", api.MaxData)}
	s := page.New(nil)
	g := Open(s)
	var all []api.Record
	for g.Append(len(all), big) == api.OK {
		all = append(all, big)
	}
	size := len(row(kept(big)))
	if len(all) != api.MaxPage/size {
		t.Fatalf("%d records of %d bytes", len(all), size)
	}
	wantAppend(t, g, len(all), big, api.ErrPageFull)
	wantAppend(t, g, len(all)+1, big, api.ErrSegmentNone)
	wantAppend(t, g, 0, big, api.OK)
	wantSegment(t, g, state{all, 0, 0})
	small := api.Record{Data: "s"}
	n := len(row(kept(small)))
	for api.MaxPage-s.Len() >= n {
		wantAppend(t, g, len(all), small, api.OK)
		all = append(all, small)
	}
	wantAppend(t, g, len(all), small, api.ErrPageFull)
	for upto := 1; api.MaxPage-s.Len() >= 7; upto++ {
		wantTrim(t, g, upto, api.OK)
	}
	g.Sync()
	trimmed := g.Trimmed()
	wantTrim(t, g, trimmed+1, api.ErrPageFull)
	wantTrim(t, g, len(all), api.ErrPageFull)
	wantTrim(t, g, trimmed, api.OK)
	wantTrim(t, g, len(all)+1, api.ErrArg)
	wantSegment(t, g, state{all, trimmed, len(all)})
	g.Crash(0)
	wantSegment(t, g, state{all, trimmed, len(all)})
}

func TestAFrameJustAsLongAsTheRoom(t *testing.T) { // P9.2
	r := rec(5)
	for _, c := range []struct {
		more int
		want api.Errno
	}{{0, api.OK}, {1, api.OK}, {-1, api.ErrPageFull}} {
		ahead := kept(rec(0))
		fill := func(s *page.Store, room int) {
			s.Append(make([]byte, api.MaxPage-s.Len()-7-room))
		}
		s := page.New(row(ahead))
		g := Open(s)
		fill(s, len(row(kept(r)))+c.more)
		wantAppend(t, g, 1, r, c.want)
		s = page.New(row(ahead))
		g = Open(s)
		fill(s, len(row(trim(1)))+c.more)
		wantTrim(t, g, 1, c.want)
		if g.Trimmed() != 1 && c.want == api.OK || g.Trimmed() != 0 && c.want != api.OK {
			t.Fatalf("Trimmed = %d", g.Trimmed())
		}
	}
}

func TestAStoreThatIsOff(t *testing.T) { // P9.2, P9.3
	g, s := ordinary(t)
	l, want := s.Frames(), state{recs(6), 3, 4}
	s.Off(true)
	for range 2 {
		wantAppend(t, g, 6, rec(6), api.ErrPageOff)
		wantAppend(t, g, 7, rec(6), api.ErrSegmentNone)
		wantAppend(t, g, 5, rec(5), api.OK)
		wantAppend(t, g, 5, rec(6), api.ErrArg)
		wantTrim(t, g, 4, api.ErrPageOff)
		wantTrim(t, g, 6, api.ErrPageOff)
		wantTrim(t, g, 7, api.ErrArg)
		wantTrim(t, g, 3, api.OK)
		g.Sync()
		wantSegment(t, g, want)
		wantFrames(t, s, l...)
	}
	s.Off(false)
	wantSegment(t, g, want)
	g.Sync()
	want.safe = 6
	wantSegment(t, g, want)
	wantAppend(t, g, 6, rec(6), api.OK)
	s.Off(true)
	g.Crash(0) // ends it
	wantSegment(t, g, want)
	wantAppend(t, g, 6, rec(6), api.OK)
	g.Sync()
	wantSegment(t, g, state{recs(7), 3, 7})
}

func TestTrimOfEveryNumber(t *testing.T) { // P9.2
	for first := range 6 {
		for upto := -2; upto < 9; upto++ {
			g, s := opened(frames(recs(5))...)
			wantTrim(t, g, min(first, 5), api.OK)
			l := s.Frames()
			want := state{recs(5), min(first, 5), 5}
			switch {
			case upto < 0 || upto > 5:
				wantTrim(t, g, upto, api.ErrArg)
			case upto <= first:
				wantTrim(t, g, upto, api.OK)
			default:
				wantTrim(t, g, upto, api.OK)
				want.trimmed = upto
				l = append(l, trim(upto))
			}
			wantSegment(t, g, want)
			wantFrames(t, s, l...)
			wantAppend(t, g, 5, rec(5), api.OK)
			wantSegment(t, g, state{recs(6), want.trimmed, 5})
		}
	}
	g, _ := opened(frames(recs(200))...)
	for _, upto := range []int{math.MinInt, -1, 201, api.MaxCount, 1 << 62, math.MaxInt} {
		wantTrim(t, g, upto, api.ErrArg)
	}
	wantTrim(t, g, 130, api.OK) // of two bytes
	wantSegment(t, g, state{recs(200), 130, 200})
}

func TestSafe(t *testing.T) { // P9.3
	s := page.New(nil)
	g := Open(s)
	want := state{}
	for i := range 10 {
		wantAppend(t, g, i, rec(i), api.OK)
		want.all = recs(i + 1)
		wantSegment(t, g, want)
		if i%3 == 2 {
			g.Sync()
			want.safe = i + 1
			wantSegment(t, g, want)
			if s.Synced() != s.Len() {
				t.Fatal("the store is not synced")
			}
			wantTrim(t, g, i-1, api.OK)
			want.trimmed = i - 1
			wantSegment(t, g, want)
		}
	}
	g.Crash(0)
	wantSegment(t, g, state{recs(9), 4, 9})
	wantSegment(t, Open(s), state{recs(9), 4, 9})
	wantAppend(t, g, 9, rec(9), api.OK)
	wantSegment(t, g, state{recs(10), 4, 9})
	g.Crash(math.MaxInt)
	wantSegment(t, g, state{recs(10), 4, 10})
	wantAppend(t, g, 10, rec(10), api.OK)
	wantSegment(t, Open(s), state{recs(11), 4, 11}) // so many there are behind Open
}

// crashed is a segment of frames, of which the first ones are synced, behind a Crash.
func crashed(l [][]byte, synced, keep int) (*Segment, *page.Store) {
	s := page.New(row(l[:synced]...))
	for _, b := range l[synced:] {
		s.Append(b)
	}
	g := Open(s)
	g.Crash(keep)
	return g, s
}

func TestCrashWithEachKeep(t *testing.T) { // P9.3, P9.4
	l := [][]byte{kept(rec(0)), kept(rec(1)), trim(1), kept(rec(2)), trim(2), kept(rec(3)), trim(4)}
	many := []int{0, 1, 2, 2, 3, 3, 4, 4}    // records of the first frames
	trimmed := []int{0, 0, 0, 1, 1, 2, 2, 4} // and how many are trimmed
	for synced := range len(l) + 1 {
		base := len(row(l[:synced]...))
		more := len(row(l...)) - base
		for keep := -2; keep <= more+3; keep++ {
			left := synced
			for left < len(l) && len(row(l[:left+1]...)) <= base+keep {
				left++
			}
			g, s := crashed(l, synced, keep)
			want := state{recs(many[left]), trimmed[left], many[left]}
			wantSegment(t, g, want)
			wantSegment(t, Open(page.New(s.Bytes())), want)
			wantFrames(t, s, l[:left]...)
			if s.Synced() != s.Len() {
				t.Fatal("the store is not synced")
			}
		}
		for _, keep := range []int{math.MinInt, math.MaxInt} {
			left := synced
			if keep > 0 {
				left = len(l)
			}
			g, _ := crashed(l, synced, keep)
			wantSegment(t, g, state{recs(many[left]), trimmed[left], many[left]})
		}
	}
}

func TestATrimThatWasSyncedAndOneThatWasNot(t *testing.T) { // P9.4
	g, _ := opened(frames(recs(5))...)
	wantTrim(t, g, 2, api.OK)
	g.Sync()
	wantTrim(t, g, 4, api.OK)
	wantAppend(t, g, 3, rec(0), api.OK)
	g.Crash(0)
	wantSegment(t, g, state{recs(5), 2, 5})
	wantAppend(t, g, 3, rec(0), api.ErrArg) // it is there again
	wantTrim(t, g, 4, api.OK)
	g.Crash(6)
	wantSegment(t, g, state{recs(5), 2, 5})
	wantTrim(t, g, 4, api.OK)
	g.Crash(7)
	wantSegment(t, g, state{recs(5), 4, 5})
}

func TestWhatIsLostMayComeOtherwise(t *testing.T) { // P9.3
	g, s := opened(frames(recs(2))...)
	wantAppend(t, g, 2, rec(2), api.OK)
	wantAppend(t, g, 3, rec(3), api.OK)
	g.Crash(0)
	wantAppend(t, g, 3, rec(3), api.ErrSegmentNone)
	wantAppend(t, g, 2, rec(7), api.OK)
	wantSegment(t, g, state{append(recs(2), rec(7)), 0, 2})
	wantFrames(t, s, kept(rec(0)), kept(rec(1)), kept(rec(7)))
}

// model is a segment told as plainly as can be: its frames, and how many of them are synced.
type model struct {
	frames [][]byte
	synced int
	off    bool
	state
}

// crash is what is left of frames that were cut to some bytes.
func (m *model) crash(keep int) {
	stay := len(row(m.frames[:m.synced]...)) + max(keep, 0)
	left := m.synced
	for left < len(m.frames) && len(row(m.frames[:left+1]...)) <= stay {
		left++
	}
	m.frames, m.synced, m.off = slices.Clone(m.frames[:left]), left, false
	var was []api.Record
	was, m.all, m.trimmed = m.all, nil, 0
	for _, b := range m.frames {
		if b[0] == 1 {
			m.all = append(m.all, was[len(m.all)])
			continue
		}
		n, _ := binary.Uvarint(b[1:])
		m.trimmed = int(n)
	}
	m.safe = len(m.all)
}

// add puts a frame behind all, if that may be.
func (m *model) add(b []byte) api.Errno {
	if m.off {
		return api.ErrPageOff
	}
	if len(row(append(slices.Clone(m.frames), b)...)) > api.MaxPage {
		return api.ErrPageFull
	}
	m.frames = append(m.frames, b)
	return api.OK
}

// append is what Append should tell.
func (m *model) append(local int, r api.Record) api.Errno {
	switch {
	case local < 0 || !record.Right(r):
		return api.ErrArg
	case local < m.trimmed:
		return api.OK
	case local < len(m.all) && record.Same(m.all[local], r):
		return api.OK
	case local < len(m.all):
		return api.ErrArg
	case local > len(m.all):
		return api.ErrSegmentNone
	case len(m.all) == api.MaxRecords:
		return api.ErrSegmentFull
	}
	err := m.add(kept(r))
	if err == api.OK {
		m.all = append(m.all, r)
	}
	return err
}

// trim is what Trim should tell.
func (m *model) trim(upto int) api.Errno {
	if upto < 0 || upto > len(m.all) {
		return api.ErrArg
	}
	if upto <= m.trimmed {
		return api.OK
	}
	err := m.add(trim(upto))
	if err == api.OK {
		m.trimmed = upto
	}
	return err
}

func TestScripts(t *testing.T) { // P9.1, P9.2, P9.3, P9.4
	next := rand.New(rand.NewPCG(9, 9))
	for round := range 80 {
		s := page.New(nil)
		g, m := Open(s), &model{}
		for range 100 {
			switch next.IntN(10) {
			case 0:
				g.Sync()
				if !m.off {
					m.synced, m.safe = len(m.frames), len(m.all)
				}
			case 1:
				if next.IntN(3) > 0 {
					continue
				}
				was, most := m.safe, len(m.all)
				keep := next.IntN(2*(s.Len()-s.Synced())+20) - 10
				g.Crash(keep)
				m.crash(keep)
				if g.Len() < was || g.Len() > most {
					t.Fatalf("behind a Crash Len is %d: %d were safe, of %d", g.Len(), was, most)
				}
			case 2:
				m.off = next.IntN(4) == 0
				s.Off(m.off)
			case 3, 4:
				upto := m.trimmed + next.IntN(6) - 3
				wantTrim(t, g, upto, m.trim(upto))
			default:
				local := len(m.all)
				if next.IntN(3) == 0 {
					local += next.IntN(8) - 6
				}
				r := rec(max(local, 0) + next.IntN(8)/7)
				if round%10 == 0 {
					r.Data = strings.Repeat("x", api.MaxData)
				}
				wantAppend(t, g, local, r, m.append(local, r))
			}
			wantSegment(t, g, m.state)
			wantFrames(t, s, m.frames...)
		}
		wantSegment(t, Open(page.New(s.Bytes())), func() state { m.crash(0); return m.state }())
	}
}

func TestWhateverFramesThereAreNothingPanics(t *testing.T) { // R1, P9.1
	next := rand.New(rand.NewPCG(99, 9))
	for range 20000 {
		var l [][]byte
		n, trimmed, whole := 0, 0, true
		for range next.IntN(8) {
			b := [][]byte{kept(rec(n)), kept(rec(n)), trim(next.IntN(4)), trim(trimmed), {byte(next.IntN(4))}, {2, byte(next.IntN(256))}}[next.IntN(6)]
			l = append(l, b)
			switch {
			case !whole:
			case len(b) > 2:
				n++
			case len(b) == 2 && b[0] == 2 && int(b[1]) >= trimmed && int(b[1]) <= n:
				trimmed = int(b[1])
			default:
				whole = false
			}
		}
		g, s := opened(l...)
		wantSegment(t, g, state{recs(n), trimmed, n})
		want := api.OK
		if !whole {
			want = api.ErrSegmentFull
		}
		wantAppend(t, g, n, rec(n), want)
		if Open(s).Len() != g.Len() {
			t.Fatalf("a segment of %d records was appended to a store of %d", g.Len(), Open(s).Len())
		}
	}
}

func TestTheSameCallsTellTheSame(t *testing.T) { // R7
	one, a := ordinary(t)
	other, b := ordinary(t)
	one.Crash(30)
	other.Crash(30)
	if !bytes.Equal(a.Bytes(), b.Bytes()) || !slices.EqualFunc(one.All(), other.All(), record.Same) {
		t.Error("two segments are unlike")
	}
}

func TestARecordThatIsHandedInStaysAndIsNotKept(t *testing.T) { // R5, R6
	g := Open(page.New(nil))
	tags := []int{3, 4, 9}
	r := api.Record{Tags: tags[:2], Data: "ab"}
	wantAppend(t, g, 0, r, api.OK)
	wantAppend(t, g, 0, r, api.OK)
	if !slices.Equal(tags, []int{3, 4, 9}) {
		t.Error("tags are other ones now")
	}
	tags[0], tags[1] = 1, 2
	wantSegment(t, g, state{[]api.Record{{Tags: []int{3, 4}, Data: "ab"}}, 0, 0})
}

func TestWhatIsToldIsTheCallersOwn(t *testing.T) { // R6
	r := api.Record{Tags: []int{3, 4}, Data: "ab"}
	for _, g := range []*Segment{Open(page.New(nil)), Open(page.New(row(kept(r), kept(r))))} {
		for i := range 2 {
			wantAppend(t, g, i, r, api.OK)
		}
		want := state{[]api.Record{r, r}, 0, g.Safe()}
		one, _ := g.Get(0)
		again, _ := g.Get(0)
		all, other := g.All(), g.All()
		one.Tags[0], all[0].Tags[1], all[1] = 1, 9, api.Record{}
		_ = append(one.Tags, 77)
		_ = append(all, r)
		wantSegment(t, g, want)
		if !slices.Equal(again.Tags, r.Tags) || !slices.EqualFunc(other, want.all, record.Same) || !slices.Equal(all[0].Tags, []int{3, 9}) {
			t.Error("two answers share")
		}
		held := g.All()
		wantTrim(t, g, 1, api.OK)
		wantAppend(t, g, 2, rec(2), api.OK)
		if !slices.EqualFunc(held, want.all, record.Same) {
			t.Error("what was told is other records now")
		}
	}
}
