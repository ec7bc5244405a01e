package index

import (
	"math"
	"slices"
	"strings"
	"testing"

	"carabiner/api"
	"carabiner/replay"
)

// at is a place.
func at(t, pos int) api.Seq { return api.Seq{Term: t, Pos: pos} }

// kept is the record of a number, of which that is told by its data, too.
func kept(number int, tags ...int) api.Record {
	return api.Record{Id: api.Id{Client: 7, Number: number}, Tags: tags, Data: "the record " + string(rune('a'+number%26))}
}

// aRecord is an item of Kind 1, aTrim one of Kind 2.
func aRecord(place api.Seq, number int, tags ...int) replay.Item {
	return replay.Item{Kind: 1, Seq: place, Record: kept(number, tags...)}
}

func aTrim(tag int, upto api.Seq) replay.Item { return replay.Item{Kind: 2, Tag: tag, Upto: upto} }

// mixed are records of one, of several and of no tags, in three terms, between which one term and many places are left out.
func mixed() []replay.Item {
	return []replay.Item{
		aRecord(at(1, 0), 0, 5),
		aRecord(at(1, 1), 1, 5, 6),
		aRecord(at(1, 3), 2),
		aRecord(at(2, 0), 3, 6),
		aRecord(at(2, 1), 4, 5, 6, 7),
		aRecord(at(2, 9), 5, 7),
		aRecord(at(4, 2), 6, 5),
		aRecord(at(4, 3), 7, 1<<30),
	}
}

// changed is an item that is changed.
func changed(i replay.Item, f func(i *replay.Item)) replay.Item {
	f(&i)
	return i
}

// wrongTags are numbers of tags that no record has.
func wrongTags() []int { return []int{-1, -2, -5, -1 << 30, math.MinInt, math.MinInt + 1} }

// isAhead tells whether a stands ahead of b.
func isAhead(a, b api.Seq) bool { return a.Term < b.Term || a.Term == b.Term && a.Pos < b.Pos }

// alike tells whether two records are the same.
func alike(a, b api.Record) bool {
	return a.Id == b.Id && slices.Equal(a.Tags, b.Tags) && a.Data == b.Data
}

// model is all that was applied: what an index should tell is worked out anew from that for each call.
type model struct{ items []replay.Item }

// apply is what Apply should tell.
func (w *model) apply(i replay.Item) api.Errno {
	switch i.Kind {
	case 1:
		if !isRight(i.Record) || i.Seq.Term < 1 || i.Seq.Pos < 0 {
			return api.ErrArg
		}
		for _, had := range w.items {
			if had.Kind == 1 && !isAhead(had.Seq, i.Seq) {
				return api.ErrArg
			}
		}
	case 2:
		if i.Tag < 0 {
			return api.ErrArg
		}
	default:
		return api.ErrArg
	}
	i.Record.Tags = slices.Clone(i.Record.Tags)
	w.items = append(w.items, i)
	return api.OK
}

// isRight is what the chapter of the record asks of it.
func isRight(r api.Record) bool {
	last := 0
	for _, tag := range r.Tags {
		if tag <= last || tag > 1<<30 {
			return false
		}
		last = tag
	}
	return r.Id.Client >= 0 && r.Id.Client <= 1<<40 && r.Id.Number >= 0 && r.Id.Number <= 1<<40 && len(r.Tags) <= 8 && len(r.Data) <= 1024
}

// first is the first item with a record of an id.
func (w *model) first(id api.Id) (replay.Item, bool) {
	for _, i := range w.items {
		if i.Kind == 1 && i.Record.Id == id {
			return i, true
		}
	}
	return replay.Item{}, false
}

// trimmed is up to where a tag was trimmed.
func (w *model) trimmed(tag int) (upto api.Seq, is bool) {
	for _, i := range w.items {
		if i.Kind == 2 && i.Tag == tag && (!is || isAhead(upto, i.Upto)) {
			upto, is = i.Upto, true
		}
	}
	return upto, is
}

// counting are the items of the records that count for a tag.
func (w *model) counting(tag int) []replay.Item {
	var l []replay.Item
	own, isOwn := w.trimmed(tag)
	all, isAll := w.trimmed(0)
	for _, i := range w.items {
		if i.Kind != 1 || tag != 0 && !slices.Contains(i.Record.Tags, tag) {
			continue
		}
		if first, _ := w.first(i.Record.Id); first.Seq != i.Seq || isOwn && !isAhead(own, i.Seq) || isAll && !isAhead(all, i.Seq) {
			continue
		}
		l = append(l, i)
	}
	return l
}

// tags are those of which something was applied, and some of which nothing was.
func (w *model) tags() []int {
	l := append([]int{0, 1, 8, 1<<30 - 1, 1<<30 + 1, 1 << 40, math.MaxInt}, wrongTags()...)
	for _, i := range w.items {
		l = append(l, i.Tag)
		l = append(l, i.Record.Tags...)
	}
	slices.Sort(l)
	return slices.Compact(l)
}

// places are those of all items, those around them, and some that are far from all.
func (w *model) places() []api.Seq {
	l := []api.Seq{
		{}, at(0, math.MaxInt), at(-1, 0), at(math.MinInt, math.MinInt), at(math.MinInt, math.MaxInt), at(1, -1), at(1, 0), at(1, math.MinInt),
		at(3, 0), at(64, 1<<40), at(65, 0), at(math.MaxInt, 0), at(math.MaxInt, math.MinInt), at(math.MaxInt, math.MaxInt),
	}
	for _, i := range w.items {
		for _, p := range []api.Seq{i.Seq, i.Upto} {
			l = append(l, p, at(p.Term, p.Pos-1), at(p.Term, p.Pos+1), at(p.Term-1, p.Pos), at(p.Term+1, p.Pos))
		}
	}
	slices.SortFunc(l, func(a, b api.Seq) int {
		switch {
		case isAhead(a, b):
			return -1
		case a == b:
			return 0
		}
		return 1
	})
	return slices.Compact(l)
}

// pair is an index, and what it should have.
type pair struct {
	*Index
	w *model
}

// fresh has nothing.
func fresh(t *testing.T) pair {
	t.Helper()
	x := pair{New(), &model{}}
	if x.Index == nil {
		t.Fatal("New() = nil")
	}
	x.want(t)
	return x
}

// with has these items.
func with(t *testing.T, l ...replay.Item) pair {
	t.Helper()
	x := fresh(t)
	for _, i := range l {
		x.wantApply(t, i, api.OK)
	}
	x.want(t)
	return x
}

// wantApply fails, if Apply does not tell that, or not so many items were applied behind it.
func (x pair) wantApply(t *testing.T, i replay.Item, want api.Errno) {
	t.Helper()
	if err := x.w.apply(i); err != want {
		t.Fatalf("Apply(%v): this test is wrong: %d", i, err)
	}
	if err := x.Apply(i); err != want {
		t.Fatalf("Apply(%v) = %d, want %d", i, err, want)
	}
	if x.Applied() != len(x.w.items) {
		t.Fatalf("Applied = %d behind %v, want %d", x.Applied(), i, len(x.w.items))
	}
}

// want fails, if an index does not tell that it has just that.
func (x pair) want(t *testing.T) {
	t.Helper()
	if x.Applied() != len(x.w.items) {
		t.Fatalf("Applied = %d, want %d", x.Applied(), len(x.w.items))
	}
	places := x.w.places()
	for _, tag := range x.w.tags() {
		x.wantTag(t, tag, places)
	}
	for _, i := range x.w.items {
		for _, id := range []api.Id{i.Record.Id, {Client: i.Record.Id.Client + 1, Number: i.Record.Id.Number}, {Client: i.Record.Id.Client, Number: i.Record.Id.Number + 1}} {
			first, want := x.w.first(id)
			if s, is := x.Find(id); s != first.Seq || is != want {
				t.Fatalf("Find(%v) = %v, %v, want %v, %v", id, s, is, first.Seq, want)
			}
		}
	}
}

// wantTag fails, if it does not tell of a tag what it should, from and to each of these places.
func (x pair) wantTag(t *testing.T, tag int, places []api.Seq) {
	t.Helper()
	l := x.w.counting(tag)
	if x.Len(tag) != len(l) {
		t.Fatalf("Len(%d) = %d, want %d", tag, x.Len(tag), len(l))
	}
	want, trimmed := x.w.trimmed(tag)
	if upto, is := x.Trimmed(tag); upto != want || is != trimmed {
		t.Fatalf("Trimmed(%d) = %v, %v, want %v, %v", tag, upto, is, want, trimmed)
	}
	var tail replay.Item
	if len(l) > 0 {
		tail = l[len(l)-1]
	}
	if s, is := x.Tail(tag); s != tail.Seq || is != (len(l) > 0) {
		t.Fatalf("Tail(%d) = %v, %v, want %v", tag, s, is, tail.Seq)
	}
	for k, from := range places {
		x.wantNextAndPrev(t, tag, l, from)
		// From and to places that are near one another, that are the same, and that stand the other way round.
		for _, to := range []api.Seq{from, places[min(k+1, len(places)-1)], places[min(k+9, len(places)-1)], places[max(k-7, 0)], places[len(places)-1], places[0]} {
			x.wantRange(t, tag, l, from, to)
		}
	}
}

// wantNextAndPrev fails, if Next and Prev do not tell the ones of l that they should.
func (x pair) wantNextAndPrev(t *testing.T, tag int, l []replay.Item, place api.Seq) {
	t.Helper()
	var next, prev replay.Item // of Kind 0, where there is none
	for _, i := range l {
		if isAhead(i.Seq, place) {
			prev = i
		} else if next.Kind == 0 {
			next = i
		}
	}
	if r, s, is := x.Next(tag, place); !alike(r, next.Record) || s != next.Seq || is != (next.Kind == 1) {
		t.Fatalf("Next(%d, %v) = %v, %v, %v, want %v", tag, place, r, s, is, next)
	}
	if r, s, is := x.Prev(tag, place); !alike(r, prev.Record) || s != prev.Seq || is != (prev.Kind == 1) {
		t.Fatalf("Prev(%d, %v) = %v, %v, %v, want %v", tag, place, r, s, is, prev)
	}
}

// wantRange fails, if Range does not tell the places of l that it should.
func (x pair) wantRange(t *testing.T, tag int, l []replay.Item, from, to api.Seq) {
	t.Helper()
	var want []api.Seq
	for _, i := range l {
		if !isAhead(i.Seq, from) && isAhead(i.Seq, to) {
			want = append(want, i.Seq)
		}
	}
	if told := x.Range(tag, from, to); !slices.Equal(told, want) {
		t.Fatalf("Range(%d, %v, %v) = %v, want %v", tag, from, to, told, want)
	}
}

// all are the places of all records that count for a tag.
func all(x *Index, tag int) []api.Seq {
	return x.Range(tag, at(math.MinInt, math.MinInt), at(math.MaxInt, math.MaxInt))
}

// wantAll fails, if not just the records at these places count for a tag.
func wantAll(t *testing.T, x *Index, tag int, want ...api.Seq) {
	t.Helper()
	if told := all(x, tag); !slices.Equal(told, want) || x.Len(tag) != len(want) {
		t.Fatalf("of the tag %d there are %v, Len = %d, want %v", tag, told, x.Len(tag), want)
	}
}

func TestExamplesOfTheChapter(t *testing.T) { // P17.1, P17.2
	x := New()
	r := api.Record{Id: api.Id{Client: 1, Number: 2}, Tags: []int{5}, Data: "ab"}
	if err := x.Apply(replay.Item{Kind: 1, Seq: at(1, 0), Record: r}); err != api.OK {
		t.Fatal(err)
	}
	if told, s, is := x.Next(5, at(1, 0)); !alike(told, r) || s != at(1, 0) || !is {
		t.Fatal(told, s, is)
	}
	if told, s, is := x.Next(5, at(1, 1)); !alike(told, api.Record{}) || s != at(0, 0) || is {
		t.Fatal(told, s, is)
	}
	if err := x.Apply(replay.Item{Kind: 2, Tag: 5, Upto: at(1, 0)}); err != api.OK {
		t.Fatal(err)
	}
	if told, s, is := x.Next(5, at(0, 0)); !alike(told, api.Record{}) || s != at(0, 0) || is {
		t.Fatal(told, s, is)
	}
	if told, s, is := x.Next(0, at(0, 0)); !alike(told, r) || s != at(1, 0) || !is {
		t.Fatal(told, s, is)
	}
}

func TestNewHasNothing(t *testing.T) { // P17.1
	x := fresh(t)
	if x.Applied() != 0 || x.Len(0) != 0 || x.Len(5) != 0 || all(x.Index, 0) != nil {
		t.Fatal(x.Applied(), x.Len(0), x.Len(5), all(x.Index, 0))
	}
	if s, is := x.Tail(0); s != at(0, 0) || is {
		t.Fatal(s, is)
	}
	if s, is := x.Trimmed(0); s != at(0, 0) || is {
		t.Fatal(s, is)
	}
	if s, is := x.Find(api.Id{}); s != at(0, 0) || is {
		t.Fatal(s, is)
	}
}

func TestRecordsOfOneSeveralAndNoTags(t *testing.T) { // P17.1, P17.2
	x := with(t, mixed()...).Index
	wantAll(t, x, 0, at(1, 0), at(1, 1), at(1, 3), at(2, 0), at(2, 1), at(2, 9), at(4, 2), at(4, 3))
	wantAll(t, x, 5, at(1, 0), at(1, 1), at(2, 1), at(4, 2))
	wantAll(t, x, 6, at(1, 1), at(2, 0), at(2, 1))
	wantAll(t, x, 7, at(2, 1), at(2, 9))
	wantAll(t, x, 1<<30, at(4, 3))
	wantAll(t, x, 4)
	wantAll(t, x, 8)
	wantAll(t, x, -5)
	if x.Applied() != 8 {
		t.Fatal(x.Applied())
	}
}

func TestARecordOfTheMost(t *testing.T) { // P17.1, P17.2
	tags := []int{1, 2, 3, 5, 8, 1000, 1<<30 - 1, 1 << 30}
	i := replay.Item{Kind: 1, Seq: at(64, 1<<40), Record: api.Record{Id: api.Id{Client: 1 << 40, Number: 1 << 40}, Tags: tags, Data: strings.Repeat("x", 1024)}}
	x := with(t, i)
	for _, tag := range append(tags, 0) {
		if r, s, is := x.Next(tag, at(1, 0)); !alike(r, i.Record) || s != i.Seq || !is {
			t.Fatal(tag, r, s, is)
		}
	}
	x.wantApply(t, aRecord(at(64, 1<<40+1), 1), api.OK) // no bound is set to places
	x.wantApply(t, aRecord(at(65, 0), 2), api.OK)
	x.wantApply(t, aRecord(at(math.MaxInt, math.MaxInt), 3, 5), api.OK)
	x.wantApply(t, aRecord(at(math.MaxInt, math.MaxInt), 4, 5), api.ErrArg)
	x.want(t)
}

func TestTheZeroRecord(t *testing.T) { // P17.1, P17.2
	x := with(t, replay.Item{Kind: 1, Seq: at(1, 0)})
	if s, is := x.Find(api.Id{}); s != at(1, 0) || !is {
		t.Fatal(s, is)
	}
	if r, s, is := x.Next(0, at(0, 0)); !alike(r, api.Record{}) || s != at(1, 0) || !is {
		t.Fatal(r, s, is)
	}
}

// wrongItems are refused, whatever was applied.
func wrongItems() []replay.Item {
	r, u := aRecord(at(60, 50), 900, 5), aTrim(5, at(60, 50))
	var l []replay.Item
	for _, kind := range []int{0, 3, 4, 16, 257, -1, -2, math.MinInt, math.MaxInt} {
		for _, i := range []replay.Item{r, u, {}} {
			l = append(l, changed(i, func(i *replay.Item) { i.Kind = kind }))
		}
	}
	for _, f := range []func(i *replay.Item){
		func(i *replay.Item) { i.Record.Id.Client = -1 },
		func(i *replay.Item) { i.Record.Id.Client = 1<<40 + 1 },
		func(i *replay.Item) { i.Record.Id.Number = -1 },
		func(i *replay.Item) { i.Record.Id.Number = 1<<40 + 1 },
		func(i *replay.Item) { i.Record.Tags = []int{0} },
		func(i *replay.Item) { i.Record.Tags = []int{-5, 5} },
		func(i *replay.Item) { i.Record.Tags = []int{5, 5} },
		func(i *replay.Item) { i.Record.Tags = []int{6, 5} },
		func(i *replay.Item) { i.Record.Tags = []int{5, 1<<30 + 1} },
		func(i *replay.Item) { i.Record.Tags = []int{1, 2, 3, 4, 5, 6, 7, 8, 9} },
		func(i *replay.Item) { i.Record.Data = strings.Repeat("x", 1025) },
		func(i *replay.Item) { i.Seq.Term = 0 },
		func(i *replay.Item) { i.Seq.Term = -1 },
		func(i *replay.Item) { i.Seq.Term = math.MinInt },
		func(i *replay.Item) { i.Seq.Pos = -1 },
		func(i *replay.Item) { i.Seq.Pos = math.MinInt },
	} {
		l = append(l, changed(r, f))
	}
	for _, tag := range wrongTags() {
		l = append(l, aTrim(tag, at(60, 50)))
	}
	return l
}

func TestWrongItems(t *testing.T) { // P17.1, R2
	for _, i := range wrongItems() {
		fresh(t).wantApply(t, i, api.ErrArg)
	}
	x := with(t, append(mixed(), aTrim(5, at(1, 0)))...)
	for _, i := range wrongItems() {
		x.wantApply(t, i, api.ErrArg)
		x.want(t)
	}
	// The id and the place of those that were refused are free still.
	x.wantApply(t, aRecord(at(60, 50), 900, 5), api.OK)
	wantAll(t, x.Index, 5, at(1, 1), at(2, 1), at(4, 2), at(60, 50))
	x.want(t)
}

func TestPlacesThatAreNotBehindTheLastOne(t *testing.T) { // P17.1, R2
	x := with(t, mixed()...) // the last one is at (4, 3)
	for _, s := range []api.Seq{at(4, 3), at(4, 2), at(4, 0), at(3, 9), at(3, 1<<40), at(2, 0), at(1, 0), at(1, 2), at(1, math.MaxInt)} {
		x.wantApply(t, aRecord(s, 900, 5), api.ErrArg)
		x.want(t)
	}
	x.wantApply(t, aRecord(at(4, 4), 900, 5), api.OK)
	x.wantApply(t, aRecord(at(4, 4), 901, 5), api.ErrArg)
	x.wantApply(t, aRecord(at(5, 0), 901, 5), api.OK)
	x.wantApply(t, aRecord(at(4, 5), 902, 5), api.ErrArg)
	x.want(t)
	// An id that was there already does not help.
	x.wantApply(t, aRecord(at(5, 0), 901, 5), api.ErrArg)
	x.want(t)
}

func TestTheFirstRecordMayStandAnywhere(t *testing.T) { // P17.1
	for _, s := range []api.Seq{at(1, 0), at(1, 1), at(1, 1<<40), at(2, 0), at(64, 7), at(math.MaxInt, 0)} {
		wantAll(t, with(t, aRecord(s, 1)).Index, 0, s)
	}
}

func TestARecordWhoseIdWasThere(t *testing.T) { // P17.1, P17.2, P17.3
	x := with(t, aRecord(at(1, 0), 1, 5), aRecord(at(1, 1), 1, 5), aRecord(at(1, 2), 2, 5), aRecord(at(2, 0), 1, 6))
	if x.Applied() != 4 {
		t.Fatal(x.Applied())
	}
	wantAll(t, x.Index, 0, at(1, 0), at(1, 2))
	wantAll(t, x.Index, 5, at(1, 0), at(1, 2))
	wantAll(t, x.Index, 6) // also not for a tag that the first one has not
	if s, is := x.Find(kept(1).Id); s != at(1, 0) || !is {
		t.Fatal(s, is)
	}
	// It is the last one that was applied, though it does not count.
	x.wantApply(t, aRecord(at(2, 0), 3, 6), api.ErrArg)
	x.wantApply(t, aRecord(at(1, 9), 3, 6), api.ErrArg)
	x.wantApply(t, aRecord(at(2, 1), 3, 6), api.OK)
	x.want(t)
}

func TestIdsThatAreUnlikeInOneNumber(t *testing.T) { // P17.1, P17.3
	x := fresh(t)
	ids := []api.Id{{Client: 1, Number: 2}, {Client: 2, Number: 1}, {Client: 1, Number: 1}, {Client: 2, Number: 2}, {Client: 0, Number: 2}, {Client: 1, Number: 0}}
	for k, id := range ids {
		x.wantApply(t, replay.Item{Kind: 1, Seq: at(1, k), Record: api.Record{Id: id}}, api.OK)
	}
	if x.Len(0) != len(ids) {
		t.Fatal(x.Len(0))
	}
	x.want(t)
}

func TestARecordWhoseIdWasThereAndIsTrimmed(t *testing.T) { // P17.1, P17.2, P17.3
	for _, tag := range []int{0, 5} {
		x := with(t, aRecord(at(1, 0), 1, 5), aTrim(tag, at(1, 0)), aRecord(at(1, 1), 1, 5), aRecord(at(1, 2), 2, 5))
		if x.Applied() != 4 {
			t.Fatal(x.Applied())
		}
		wantAll(t, x.Index, 5, at(1, 2))
		if s, is := x.Find(kept(1).Id); s != at(1, 0) || !is {
			t.Fatal(tag, s, is)
		}
	}
	// Likewise one that was trimmed ahead of its coming.
	x := with(t, aTrim(0, at(1, 5)), aRecord(at(1, 4), 1, 5), aRecord(at(1, 6), 1, 5))
	wantAll(t, x.Index, 0)
	wantAll(t, x.Index, 5)
	if s, is := x.Find(kept(1).Id); s != at(1, 4) || !is {
		t.Fatal(s, is)
	}
}

func TestTrimOfATag(t *testing.T) { // P17.1, P17.2
	x := with(t, mixed()...)
	x.wantApply(t, aTrim(5, at(1, 1)), api.OK)
	wantAll(t, x.Index, 5, at(2, 1), at(4, 2))
	wantAll(t, x.Index, 6, at(1, 1), at(2, 0), at(2, 1)) // the record at (1, 1) counts for its other tag still
	if x.Len(0) != 8 || x.Applied() != 9 {
		t.Fatal(x.Len(0), x.Applied())
	}
	x.want(t)
	x.wantApply(t, aTrim(5, at(3, 0)), api.OK) // a place that no record has
	wantAll(t, x.Index, 5, at(4, 2))
	x.want(t)
	x.wantApply(t, aTrim(5, at(4, 2)), api.OK)
	wantAll(t, x.Index, 5)
	x.want(t)
	x.wantApply(t, aRecord(at(4, 4), 8, 5), api.OK)
	wantAll(t, x.Index, 5, at(4, 4))
	x.want(t)
}

func TestTrimOfTheTag0(t *testing.T) { // P17.1, P17.2
	x := with(t, mixed()...)
	x.wantApply(t, aTrim(0, at(2, 0)), api.OK)
	wantAll(t, x.Index, 0, at(2, 1), at(2, 9), at(4, 2), at(4, 3))
	wantAll(t, x.Index, 5, at(2, 1), at(4, 2))
	wantAll(t, x.Index, 6, at(2, 1))
	wantAll(t, x.Index, 7, at(2, 1), at(2, 9))
	if s, is := x.Trimmed(5); s != at(0, 0) || is { // the tag itself was never trimmed
		t.Fatal(s, is)
	}
	x.want(t)
	x.wantApply(t, aTrim(6, at(1, 1)), api.OK) // less than what the tag 0 was
	wantAll(t, x.Index, 6, at(2, 1))
	if s, is := x.Trimmed(6); s != at(1, 1) || !is {
		t.Fatal(s, is)
	}
	x.want(t)
	x.wantApply(t, aTrim(0, at(9, 0)), api.OK)
	for _, tag := range []int{0, 5, 6, 7, 1 << 30} {
		wantAll(t, x.Index, tag)
	}
	x.want(t)
}

func TestTrimOfATagThatNoRecordHas(t *testing.T) { // P17.1, P17.2
	x := with(t, mixed()...)
	for k, tag := range []int{4, 8, 1<<30 - 1, 1<<30 + 1, math.MaxInt} {
		x.wantApply(t, aTrim(tag, at(9, 9)), api.OK)
		if s, is := x.Trimmed(tag); s != at(9, 9) || !is || x.Applied() != 9+k {
			t.Fatal(tag, s, is, x.Applied())
		}
	}
	if x.Len(0) != 8 {
		t.Fatal(x.Len(0))
	}
	x.want(t)
	// A record with that tag, up to there, does not count for it when it comes.
	x.wantApply(t, aRecord(at(9, 9), 8, 4, 5), api.OK)
	x.wantApply(t, aRecord(at(9, 10), 9, 4, 5), api.OK)
	wantAll(t, x.Index, 4, at(9, 10))
	wantAll(t, x.Index, 5, at(1, 0), at(1, 1), at(2, 1), at(4, 2), at(9, 9), at(9, 10))
	x.want(t)
}

func TestTrimOfAPlaceThatIsNotBehind(t *testing.T) { // P17.1, P17.2
	for _, tag := range []int{0, 5} {
		x := with(t, append(mixed(), aTrim(tag, at(2, 0)))...)
		n := x.Len(tag)
		for k, s := range []api.Seq{at(2, 0), at(1, 9), at(1, 0), at(0, 0), at(-1, 5), at(2, -1), at(math.MinInt, math.MinInt)} {
			x.wantApply(t, aTrim(tag, s), api.OK)
			// It counts as applied, though it changes nothing.
			if upto, is := x.Trimmed(tag); upto != at(2, 0) || !is || x.Len(tag) != n || x.Applied() != 10+k {
				t.Fatal(tag, s, upto, is, x.Len(tag), x.Applied())
			}
		}
		x.want(t)
	}
}

func TestTrimOfAPlaceThatNoRecordMayHave(t *testing.T) { // P17.1, P17.2
	for _, s := range []api.Seq{at(0, 0), at(0, 9), at(-3, 4), at(1, -1), at(math.MinInt, math.MinInt)} {
		x := with(t, append(mixed(), aTrim(5, s), aTrim(0, s))...)
		if upto, is := x.Trimmed(5); upto != s || !is {
			t.Fatal(upto, is)
		}
		if x.Len(5) != 4 || x.Len(0) != 8 || x.Applied() != 10 {
			t.Fatal(x.Len(5), x.Len(0), x.Applied())
		}
	}
}

func TestTrimAheadOfRecords(t *testing.T) { // P17.1, P17.2
	x := with(t, aTrim(5, at(2, 1)), aTrim(0, at(1, 1)))
	for _, i := range mixed() { // a trim is no record: the places may be ahead of its own
		x.wantApply(t, i, api.OK)
	}
	wantAll(t, x.Index, 0, at(1, 3), at(2, 0), at(2, 1), at(2, 9), at(4, 2), at(4, 3))
	wantAll(t, x.Index, 5, at(4, 2))
	wantAll(t, x.Index, 6, at(2, 0), at(2, 1))
	x.want(t)
}

func TestFieldsThatAreNotAskedFor(t *testing.T) { // P17.1
	x := fresh(t)
	x.wantApply(t, changed(aRecord(at(1, 0), 1, 5), func(i *replay.Item) { i.Tag, i.Upto = -1, at(9, 9) }), api.OK)
	wantAll(t, x.Index, 5, at(1, 0))
	x.wantApply(t, changed(aTrim(5, at(1, 0)), func(i *replay.Item) {
		i.Seq, i.Record = at(-1, -1), api.Record{Id: api.Id{Client: -1}, Tags: []int{9, 8}}
	}), api.OK)
	wantAll(t, x.Index, 5)
	wantAll(t, x.Index, 0, at(1, 0))
	if s, is := x.Find(api.Id{Client: -1}); s != at(0, 0) || is {
		t.Fatal(s, is)
	}
	x.wantApply(t, changed(aTrim(6, at(1, 0)), func(i *replay.Item) { i.Seq = at(50, 0) }), api.OK)
	x.wantApply(t, aRecord(at(1, 1), 2, 5), api.OK) // that trim's Seq is no record's
	wantAll(t, x.Index, 0, at(1, 0), at(1, 1))
}

func TestNextAndPrevAroundEachPlace(t *testing.T) { // P17.2
	x := with(t, mixed()...)
	for _, c := range []struct {
		tag        int
		place      api.Seq
		next, prev api.Seq // zero, where there is none
	}{
		{5, at(0, 0), at(1, 0), at(0, 0)},
		{5, at(1, 0), at(1, 0), at(0, 0)},
		{5, at(1, 1), at(1, 1), at(1, 0)},
		{5, at(1, 2), at(2, 1), at(1, 1)},
		{5, at(2, 0), at(2, 1), at(1, 1)},
		{5, at(2, 1), at(2, 1), at(1, 1)},
		{5, at(2, 2), at(4, 2), at(2, 1)},
		{5, at(3, 0), at(4, 2), at(2, 1)}, // a term without records
		{5, at(3, 9), at(4, 2), at(2, 1)},
		{5, at(4, 2), at(4, 2), at(2, 1)},
		{5, at(4, 3), at(0, 0), at(4, 2)},
		{5, at(9, 0), at(0, 0), at(4, 2)},
		{0, at(-1, 5), at(1, 0), at(0, 0)},
		{0, at(1, 2), at(1, 3), at(1, 1)},
		{0, at(1, 4), at(2, 0), at(1, 3)},
		{0, at(4, 3), at(4, 3), at(4, 2)},
		{0, at(4, 4), at(0, 0), at(4, 3)},
		{4, at(1, 0), at(0, 0), at(0, 0)},
		{4, at(9, 0), at(0, 0), at(0, 0)},
		{-5, at(9, 0), at(0, 0), at(0, 0)},
	} {
		if _, s, is := x.Next(c.tag, c.place); s != c.next || is != (c.next != at(0, 0)) {
			t.Errorf("Next(%d, %v) = %v, %v, want %v", c.tag, c.place, s, is, c.next)
		}
		if _, s, is := x.Prev(c.tag, c.place); s != c.prev || is != (c.prev != at(0, 0)) {
			t.Errorf("Prev(%d, %v) = %v, %v, want %v", c.tag, c.place, s, is, c.prev)
		}
	}
	for _, i := range mixed() { // the record itself, by each tag
		for _, tag := range append(slices.Clone(i.Record.Tags), 0) {
			if r, s, is := x.Next(tag, i.Seq); !alike(r, i.Record) || s != i.Seq || !is {
				t.Errorf("Next(%d, %v) = %v, %v, %v", tag, i.Seq, r, s, is)
			}
			if r, s, is := x.Prev(tag, at(i.Seq.Term, i.Seq.Pos+1)); !alike(r, i.Record) || s != i.Seq || !is {
				t.Errorf("Prev(%d, behind %v) = %v, %v, %v", tag, i.Seq, r, s, is)
			}
		}
	}
}

func TestTail(t *testing.T) { // P17.2
	x := with(t, mixed()...)
	for tag, want := range map[int]api.Seq{0: at(4, 3), 5: at(4, 2), 6: at(2, 1), 7: at(2, 9), 1 << 30: at(4, 3), 4: {}, -5: {}} {
		if s, is := x.Tail(tag); s != want || is != (want != api.Seq{}) {
			t.Errorf("Tail(%d) = %v, %v, want %v", tag, s, is, want)
		}
	}
	x.wantApply(t, aTrim(7, at(2, 9)), api.OK)
	if s, is := x.Tail(7); s != at(0, 0) || is {
		t.Error(s, is)
	}
	x.wantApply(t, aRecord(at(4, 4), 4, 7), api.OK) // an id that was there is no tail
	if s, is := x.Tail(0); s != at(4, 3) || !is {
		t.Error(s, is)
	}
	if s, is := x.Tail(7); s != at(0, 0) || is {
		t.Error(s, is)
	}
}

func TestRange(t *testing.T) { // P17.2
	x := with(t, mixed()...)
	for _, c := range []struct {
		tag      int
		from, to api.Seq
		want     []api.Seq
	}{
		{5, at(1, 0), at(4, 3), []api.Seq{at(1, 0), at(1, 1), at(2, 1), at(4, 2)}},
		{5, at(1, 0), at(4, 2), []api.Seq{at(1, 0), at(1, 1), at(2, 1)}},
		{5, at(1, 1), at(4, 2), []api.Seq{at(1, 1), at(2, 1)}},
		{5, at(1, 2), at(2, 1), nil},
		{5, at(1, 2), at(2, 2), []api.Seq{at(2, 1)}},
		{5, at(2, 1), at(2, 1), nil},
		{5, at(2, 2), at(2, 1), nil},
		{5, at(4, 3), at(1, 0), nil}, // the other way round
		{5, at(9, 0), at(0, 0), nil},
		{5, at(3, 0), at(3, 9), nil},
		{0, at(1, 3), at(2, 1), []api.Seq{at(1, 3), at(2, 0)}},
		{0, at(4, 3), at(9, 9), []api.Seq{at(4, 3)}},
		{0, at(4, 4), at(9, 9), nil},
		{4, at(0, 0), at(9, 9), nil},
		{-5, at(0, 0), at(9, 9), nil},
	} {
		if told := x.Range(c.tag, c.from, c.to); !slices.Equal(told, c.want) {
			t.Errorf("Range(%d, %v, %v) = %v, want %v", c.tag, c.from, c.to, told, c.want)
		}
	}
}

func TestRangeOfAllPairsOfPlaces(t *testing.T) { // P17.2
	x := with(t, append(mixed(), aTrim(5, at(1, 0)), aTrim(0, at(1, 0)))...)
	places := x.w.places()
	for _, tag := range []int{0, 5, 6, 7, 4, -1} {
		l := x.w.counting(tag)
		for _, from := range places {
			for _, to := range places {
				x.wantRange(t, tag, l, from, to)
			}
		}
	}
}

func TestTagsWhoseRecordsAreAllTrimmed(t *testing.T) { // P17.2
	for _, trim := range [][]replay.Item{{aTrim(7, at(2, 9))}, {aTrim(7, at(50, 0))}, {aTrim(0, at(2, 9))}, {aTrim(7, at(2, 1)), aTrim(0, at(9, 9))}} {
		x := with(t, append(mixed(), trim...)...)
		for _, s := range []api.Seq{at(0, 0), at(2, 1), at(2, 9), at(2, 10), at(50, 0), at(99, 0)} {
			if r, p, is := x.Next(7, s); !alike(r, api.Record{}) || p != at(0, 0) || is {
				t.Fatal(s, r, p, is)
			}
			if r, p, is := x.Prev(7, s); !alike(r, api.Record{}) || p != at(0, 0) || is {
				t.Fatal(s, r, p, is)
			}
		}
		if s, is := x.Tail(7); s != at(0, 0) || is {
			t.Fatal(s, is)
		}
		wantAll(t, x.Index, 7)
	}
}

func TestTrimmed(t *testing.T) { // P17.2
	x := fresh(t)
	want := func(tag int, want api.Seq, trimmed bool) {
		t.Helper()
		if s, is := x.Trimmed(tag); s != want || is != trimmed {
			t.Fatalf("Trimmed(%d) = %v, %v, want %v, %v", tag, s, is, want, trimmed)
		}
	}
	want(5, at(0, 0), false) // never
	x.wantApply(t, aTrim(5, at(2, 3)), api.OK)
	want(5, at(2, 3), true) // once
	x.wantApply(t, aTrim(5, at(3, 1)), api.OK)
	want(5, at(3, 1), true) // twice
	x.wantApply(t, aTrim(5, at(2, 9)), api.OK)
	want(5, at(3, 1), true) // by a lesser place
	x.wantApply(t, aTrim(5, at(3, 0)), api.OK)
	want(5, at(3, 1), true)
	x.wantApply(t, aTrim(5, at(3, 1)), api.OK)
	want(5, at(3, 1), true) // by the same
	want(0, at(0, 0), false)
	want(6, at(0, 0), false)
	x.wantApply(t, aTrim(0, at(7, 7)), api.OK)
	want(0, at(7, 7), true)
	want(5, at(3, 1), true) // the tag 0 is another one
	want(6, at(0, 0), false)
	x.wantApply(t, aTrim(6, at(0, 0)), api.OK)
	want(6, at(0, 0), true) // the zero place is one, too
	for _, tag := range wrongTags() {
		x.wantApply(t, aTrim(tag, at(7, 7)), api.ErrArg)
		want(tag, at(0, 0), false)
	}
}

func TestFind(t *testing.T) { // P17.2
	x := with(t,
		aRecord(at(1, 0), 1, 5), aRecord(at(1, 1), 2, 5), aRecord(at(1, 2), 3, 6), aRecord(at(1, 3), 2, 5),
		aTrim(5, at(1, 0)), aTrim(0, at(1, 1)), aRecord(at(2, 0), 1, 5), aRecord(at(2, 1), 4))
	for number, want := range map[int]api.Seq{
		1: at(1, 0), // trimmed, and came twice
		2: at(1, 1), // came twice, then trimmed
		3: at(1, 2),
		4: at(2, 1),
		5: {}, // never came
	} {
		if s, is := x.Find(kept(number).Id); s != want || is != (want != api.Seq{}) {
			t.Errorf("Find(%d) = %v, %v, want %v", number, s, is, want)
		}
	}
	for _, id := range []api.Id{{}, {Client: 1, Number: 7}, {Client: -7, Number: 1}, {Client: 7, Number: -1}, {Client: math.MaxInt, Number: math.MinInt}} {
		if s, is := x.Find(id); s != at(0, 0) || is {
			t.Errorf("Find(%v) = %v, %v", id, s, is)
		}
	}
}

func TestAppliedBehindEachItem(t *testing.T) { // P17.1
	x := fresh(t)
	for k, i := range []replay.Item{
		aRecord(at(1, 0), 1, 5, 6), aRecord(at(1, 1), 2), aRecord(at(1, 2), 1, 5), aTrim(9, at(1, 1)), aTrim(0, at(1, 0)),
		aTrim(0, at(1, 0)), aTrim(0, at(0, 9)), aRecord(at(1, 3), 1), aRecord(at(2, 0), 3, 5),
	} {
		x.wantApply(t, i, api.OK)
		if x.Applied() != k+1 {
			t.Fatal(k, x.Applied())
		}
		x.wantApply(t, replay.Item{}, api.ErrArg)
		if x.Applied() != k+1 {
			t.Fatal(k, x.Applied())
		}
		x.want(t)
	}
}
