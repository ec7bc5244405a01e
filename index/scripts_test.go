package index

import (
	"math"
	"math/rand/v2"
	"slices"
	"testing"

	"carabiner/api"
	"carabiner/entry"
	"carabiner/register"
	"carabiner/replay"
	"carabiner/term"
)

// script makes items of few tags, ids and places, so that they come by one another often.
type script struct {
	*rand.Rand
	last api.Seq // where the last record should stand
	all  bool    // whether the tag 0 is trimmed, too
}

// tags are some that rise.
func (s *script) tags() []int {
	var l []int
	for tag := 1; tag <= 4; tag++ {
		if s.IntN(3) == 0 {
			l = append(l, tag)
		}
	}
	return l
}

// near is a place not far from the last one.
func (s *script) near() api.Seq { return at(s.last.Term+s.IntN(3)-1, s.last.Pos+s.IntN(9)-6) }

// item is any, which may be refused.
func (s *script) item() replay.Item {
	switch s.IntN(8) {
	case 0: // most are refused
		return replay.Item{Kind: 1, Seq: s.near(), Record: kept(s.IntN(60), s.tags()...)}
	case 1, 2:
		tag := s.IntN(6)
		if tag == 0 && !s.all {
			tag = 1
		}
		return aTrim(tag, s.near())
	case 3:
		wrong := wrongItems()
		return wrong[s.IntN(len(wrong))]
	}
	next := at(max(s.last.Term, 1), s.last.Pos+1+s.IntN(2))
	if s.IntN(9) == 0 {
		next = at(next.Term+1, s.IntN(3))
	}
	return aRecord(next, s.IntN(60), s.tags()...)
}

// goOn applies any item.
func (s *script) goOn(t *testing.T, x pair) {
	t.Helper()
	i := s.item()
	w := model{slices.Clone(x.w.items)}
	err := w.apply(i)
	x.wantApply(t, i, err)
	if i.Kind == 1 && err == api.OK {
		s.last = i.Seq
	}
}

func TestScriptsOfCalls(t *testing.T) { // P17.1, P17.2
	chance := rand.New(rand.NewPCG(17, 1))
	for n := range 120 {
		s, x := &script{Rand: chance, all: n%2 == 0}, fresh(t)
		for k := range 40 {
			s.goOn(t, x)
			if k%13 == 0 {
				x.want(t)
			}
		}
		x.want(t)
	}
}

// forward are the places that Next tells one behind the other.
func forward(t *testing.T, x *Index, tag int) []api.Seq {
	t.Helper()
	var l []api.Seq
	from := api.Seq{}
	for range 1000 {
		_, s, is := x.Next(tag, from)
		if !is {
			return l
		}
		l = append(l, s)
		from = at(s.Term, s.Pos+1)
	}
	t.Fatal("Next goes on and on")
	return nil
}

// backward are the places that Prev tells one ahead of the other.
func backward(t *testing.T, x *Index, tag int) []api.Seq {
	t.Helper()
	var l []api.Seq
	to := at(math.MaxInt, math.MaxInt)
	for range 1000 {
		_, s, is := x.Prev(tag, to)
		if !is {
			return l
		}
		l = append(l, s)
		to = s
	}
	t.Fatal("Prev goes on and on")
	return nil
}

// wantWalks fails, if the walks from the front and from behind are not the Range.
func wantWalks(t *testing.T, x *Index, tag int) {
	t.Helper()
	want := all(x, tag)
	if l := forward(t, x, tag); !slices.Equal(l, want) {
		t.Fatalf("of the tag %d Next tells %v, Range %v", tag, l, want)
	}
	l := backward(t, x, tag)
	slices.Reverse(l)
	if !slices.Equal(l, want) {
		t.Fatalf("of the tag %d Prev tells %v, Range %v", tag, l, want)
	}
	if s, is := x.Tail(tag); is != (len(want) > 0) || is && s != want[len(want)-1] {
		t.Fatalf("Tail(%d) = %v, %v, Range %v", tag, s, is, want)
	}
	if !slices.IsSortedFunc(want, func(a, b api.Seq) int {
		if isAhead(a, b) {
			return -1
		}
		return 1
	}) {
		t.Fatalf("of the tag %d %v do not rise", tag, want)
	}
}

func TestWalksAreTheRange(t *testing.T) { // P17.3
	x := with(t, mixed()...)
	for _, tag := range []int{0, 4, 5, 6, 7, 1 << 30, -1} {
		wantWalks(t, x.Index, tag)
	}
	want := []api.Seq{at(1, 0), at(1, 1), at(2, 1), at(4, 2)}
	if l := forward(t, x.Index, 5); !slices.Equal(l, want) {
		t.Fatal(l)
	}
	chance := rand.New(rand.NewPCG(17, 2))
	for n := range 200 {
		s, x := &script{Rand: chance, all: n%2 == 0}, fresh(t)
		for range 60 {
			s.goOn(t, x)
		}
		for tag := range 6 {
			wantWalks(t, x.Index, tag)
		}
	}
}

func TestWhatDoesNotCountAnyMoreNeverCountsAgain(t *testing.T) { // P17.3
	chance := rand.New(rand.NewPCG(17, 3))
	for n := range 200 {
		s, x := &script{Rand: chance, all: n%2 == 0}, fresh(t)
		counted := make([]map[api.Seq]int, 5) // of each tag: 1, where a record counts, 2, where it did
		for tag := range counted {
			counted[tag] = map[api.Seq]int{}
		}
		for range 60 {
			s.goOn(t, x)
			for tag, had := range counted {
				wantNoneAgain(t, x.Index, tag, had)
			}
		}
	}
}

// wantNoneAgain fails, if a record counts that did not any more.
func wantNoneAgain(t *testing.T, x *Index, tag int, had map[api.Seq]int) {
	t.Helper()
	now := all(x, tag)
	for s := range had {
		if !slices.Contains(now, s) {
			had[s] = 2
		}
	}
	for _, s := range now {
		if had[s] == 2 {
			t.Fatalf("at %v a record counts for the tag %d again", s, tag)
		}
		had[s] = 1
	}
}

func TestTrimmedRecordsStayTrimmedWhateverComes(t *testing.T) { // P17.3
	for _, tag := range []int{0, 5} {
		x := with(t, append(mixed(), aTrim(tag, at(2, 1)))...)
		for _, i := range []replay.Item{
			aTrim(tag, at(1, 0)), aTrim(tag, at(0, 0)), aTrim(6, at(0, 0)), aTrim(7, at(9, 9)), aTrim(0, at(1, 0)),
			aRecord(at(5, 0), 0, 5), aRecord(at(5, 1), 1, 5, 6), aRecord(at(5, 2), 4, 5), aRecord(at(5, 3), 20, 6),
		} {
			x.wantApply(t, i, api.OK)
			wantAll(t, x.Index, 5, at(4, 2))
			x.want(t)
		}
		x.wantApply(t, aRecord(at(2, 1), 30, 5), api.ErrArg)
		wantAll(t, x.Index, 5, at(4, 2))
	}
}

func TestEachIdCountsOnceAtMost(t *testing.T) { // P17.3
	chance := rand.New(rand.NewPCG(17, 4))
	for n := range 200 {
		s, x := &script{Rand: chance, all: n%2 == 0}, fresh(t)
		came := map[int]map[api.Id]api.Seq{0: {}, 1: {}, 2: {}, 3: {}, 4: {}}
		for range 60 {
			s.goOn(t, x)
			for tag, had := range came { // also not one behind the other
				for _, p := range all(x.Index, tag) {
					r, _, _ := x.Next(tag, p)
					if was, is := had[r.Id]; is && was != p {
						t.Fatalf("for the tag %d %v counts at %v and at %v", tag, r.Id, was, p)
					}
					had[r.Id] = p
					if first, is := x.Find(r.Id); first != p || !is {
						t.Fatalf("Find(%v) = %v, %v, but it counts at %v", r.Id, first, is, p)
					}
				}
			}
		}
	}
}

func TestItemsOfAReplay(t *testing.T) { // P17.1, P17.2
	config := func(t int) term.Config {
		return term.Config{Term: t, Sequencers: []int{0}, Shards: [][]int{{1}, {2}}}
	}
	aCut := func(n int, v ...int) entry.Entry { return entry.Entry{Number: n, Kind: 1, Cut: v} }
	g, _ := register.New(config(1))
	g.Install(config(2), []entry.Entry{aCut(1, 1, 2), {Number: 2, Kind: 2, Tag: 1, Upto: at(1, 1)}, aCut(3, 3, 2)})
	g.Install(config(3), nil)
	r, _ := replay.New(1)
	r.Feed(g, 3, []entry.Entry{aCut(1, 0, 2)})
	items, err := r.All(g, func(t, shard, local int) (api.Record, api.Errno) {
		return api.Record{Id: api.Id{Client: shard, Number: local}, Tags: []int{shard + 1}}, api.OK
	})
	if err != api.ErrReplayWait || len(items) != 8 {
		t.Fatal(items, err)
	}
	x := with(t, items...)
	wantAll(t, x.Index, 0, at(1, 0), at(1, 1), at(1, 2), at(1, 3), at(1, 4)) // what is appended once more in the term 3 does not count
	wantAll(t, x.Index, 1, at(1, 3), at(1, 4))
	wantAll(t, x.Index, 2, at(1, 1), at(1, 2))
	if x.Applied() != 8 {
		t.Fatal(x.Applied())
	}
}

func TestManyItems(t *testing.T) { // P17.2
	const many = 100000
	x := New()
	for k := range many {
		if err := x.Apply(aRecord(at(1, k), k, 1+k%5, 1000+k)); err != api.OK {
			t.Fatal(k, err)
		}
	}
	for k := range many - 1 { // one by one
		if err := x.Apply(aTrim(k%2, at(1, k))); err != api.OK {
			t.Fatal(k, err)
		}
		first := k - k%2 + 1 // that behind the last one up to which the tag 0 was trimmed
		if r, s, is := x.Next(0, at(0, 0)); !alike(r, kept(first, 1+first%5, 1000+first)) || s != at(1, first) || !is {
			t.Fatal(k, r, s, is)
		}
	}
	if x.Applied() != 2*many-1 || x.Len(0) != 1 {
		t.Fatal(x.Applied(), x.Len(0))
	}
}

func TestWhatDoesNotCountIsLetGo(t *testing.T) { // P17.3
	x := with(t, append(mixed(), aRecord(at(5, 0), 0, 5), aTrim(5, at(1, 1)))...)
	if len(x.records) != 8 || len(x.places[5]) != 2 {
		t.Fatal(x.records, x.places)
	}
	x.wantApply(t, aTrim(0, at(2, 0)), api.OK)
	if len(x.records) != 4 || len(x.places[0]) != 4 || len(x.places[6]) != 1 {
		t.Fatal(x.records, x.places)
	}
	x.wantApply(t, aTrim(0, at(9, 0)), api.OK)
	x.wantApply(t, aRecord(at(8, 0), 9, 5), api.OK)
	if len(x.records) != 0 || len(x.places) != 0 {
		t.Fatal(x.records, x.places)
	}
}

func TestWhatWasHandedInStaysAsItWas(t *testing.T) { // R5
	x := New()
	tags := []int{5, 6, 9, 9}
	i := replay.Item{Kind: 1, Seq: at(1, 0), Record: api.Record{Tags: tags[:2], Data: "ab"}} // with room behind its tags
	was := replay.Item{Kind: 1, Seq: at(1, 0), Record: api.Record{Tags: []int{5, 6}, Data: "ab"}}
	for range 2 { // also where it is refused
		x.Apply(i)
		if !replay.Same(i, was) || !slices.Equal(tags, []int{5, 6, 9, 9}) {
			t.Fatal(i, tags)
		}
	}
}

func TestWhatIsChangedLaterChangesNothing(t *testing.T) { // R6
	x := fresh(t)
	l := mixed()
	for _, i := range l {
		x.wantApply(t, i, api.OK)
	}
	for _, i := range l {
		for k := range i.Record.Tags {
			i.Record.Tags[k] = 77
		}
	}
	x.want(t)
	x.wantApply(t, aTrim(0, at(2, 1)), api.OK) // by what tags there were
	wantAll(t, x.Index, 5, at(4, 2))
	wantAll(t, x.Index, 77)
	x.want(t)
}

func TestWhatIsToldIsTheCallersOwn(t *testing.T) { // R6
	x := with(t, mixed()...)
	spoil := func(r api.Record, _ api.Seq, _ bool) {
		for k := range r.Tags {
			r.Tags[k] = 77
		}
		_ = append(r.Tags, 78)
	}
	for _, tag := range []int{0, 5, 6, 7, 1 << 30} {
		for _, s := range x.w.places() {
			spoil(x.Next(tag, s))
			spoil(x.Prev(tag, s))
		}
		l := all(x.Index, tag)
		for k := range l {
			l[k] = at(77, 77)
		}
		part := x.Range(tag, at(1, 1), at(2, 1))
		_ = append(part, at(78, 78), at(79, 79))
		for k := range part {
			part[k] = at(77, 77)
		}
	}
	x.want(t)
	x.wantApply(t, aTrim(0, at(2, 1)), api.OK)
	x.wantApply(t, aRecord(at(5, 0), 20, 5, 6), api.OK)
	x.want(t)
}

func TestListsThatWereToldStayAsTheyWere(t *testing.T) { // R6
	x := with(t, mixed()...)
	l := all(x.Index, 5)
	r, _, _ := x.Next(5, at(2, 0))
	for _, i := range []replay.Item{aRecord(at(5, 0), 20, 5), aTrim(5, at(2, 1)), aTrim(0, at(5, 0)), aRecord(at(5, 1), 21, 5), aRecord(at(5, 2), 22, 5)} {
		x.wantApply(t, i, api.OK)
	}
	if !slices.Equal(l, []api.Seq{at(1, 0), at(1, 1), at(2, 1), at(4, 2)}) || !alike(r, mixed()[4].Record) {
		t.Fatal(l, r)
	}
}

func TestTwoIndexesShareNothing(t *testing.T) { // R6
	a, b := fresh(t), fresh(t)
	for _, i := range mixed() {
		a.wantApply(t, i, api.OK)
	}
	b.want(t)
	for _, i := range mixed()[2:] {
		b.wantApply(t, i, api.OK)
	}
	a.wantApply(t, aTrim(0, at(9, 9)), api.OK)
	a.want(t)
	b.want(t)
}

func TestTheSameCallsTellTheSame(t *testing.T) { // R7
	for range 10 {
		chance := rand.New(rand.NewPCG(17, 5))
		a, b := New(), New()
		s := &script{Rand: chance, all: true}
		for range 100 {
			i := s.item()
			was, had := a.Apply(i), b.Apply(i)
			if was != had {
				t.Fatal(i, was, had)
			}
			if i.Kind == 1 && was == api.OK {
				s.last = i.Seq
			}
		}
		for tag := range 6 {
			if !slices.Equal(all(a, tag), all(b, tag)) {
				t.Fatal(tag, all(a, tag), all(b, tag))
			}
		}
	}
}

func TestNothingPanics(t *testing.T) { // R1
	odd := []int{math.MinInt, -1 << 40, -1, 0, 1, 5, 1 << 30, 1<<30 + 1, 1 << 40, math.MaxInt}
	x := with(t, mixed()...)
	for _, a := range odd {
		x.Len(a)
		x.Tail(a)
		x.Trimmed(a)
		for _, b := range odd {
			x.Find(api.Id{Client: a, Number: b})
			for _, c := range odd {
				x.Next(c, at(a, b))
				x.Prev(c, at(a, b))
				x.Range(c, at(a, b), at(b, a))
				y := New()
				y.Apply(replay.Item{Kind: 1, Seq: at(a, b), Record: api.Record{Id: api.Id{Client: c}, Tags: odd}, Tag: c, Upto: at(b, a)})
				y.Apply(replay.Item{Kind: 2, Seq: at(a, b), Record: api.Record{Id: api.Id{Client: c}, Tags: odd}, Tag: c, Upto: at(b, a)})
				y.Apply(replay.Item{Kind: c, Seq: at(a, b), Tag: b, Upto: at(b, a)})
			}
		}
	}
	x.want(t)
}
