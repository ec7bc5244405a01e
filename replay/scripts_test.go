package replay

import (
	"math"
	"math/rand/v2"
	"slices"
	"testing"

	"carabiner/api"
	"carabiner/entry"
	"carabiner/register"
	"carabiner/term"
)

// model is what a replay should tell: one item after another is laid down for each entry ahead of all steps.
type model struct {
	term, entries, records int
	fed                    map[int][]entry.Entry
}

// brings are the items of each entry of a term.
func brings(t int, l []entry.Entry) [][]Item {
	var all [][]Item
	last := make([]int, api.MaxShards)
	pos := 0
	for _, e := range l {
		var items []Item
		if e.Kind == 2 {
			items = append(items, Item{Kind: 2, Tag: e.Tag, Upto: e.Upto})
		}
		for k, n := range e.Cut {
			for ; last[k] < n; last[k]++ {
				items = append(items, aRecord(t, pos, k, last[k]))
				pos++
			}
		}
		all = append(all, items)
	}
	return all
}

// total is how many records these entries bring.
func total(l []entry.Entry) int {
	n := 0
	for _, items := range brings(1, l) {
		n += countRecords(items)
	}
	return n
}

// startsWith tells whether l starts with these entries.
func startsWith(l, first []entry.Entry) bool {
	return len(l) >= len(first) && slices.EqualFunc(l[:len(first)], first, entry.Same)
}

// feed is what Feed should tell.
func (w *model) feed(g *register.Register, t int, l []entry.Entry) api.Errno {
	row, err := g.Row(t)
	if err != api.OK || row.Over {
		return api.ErrArg
	}
	for _, e := range l {
		if e.Kind == 1 && len(e.Cut) != len(row.C.Shards) {
			return api.ErrReplayForm
		}
	}
	if entry.Chain(l) != len(l) || !startsWith(l, w.fed[t]) && !startsWith(w.fed[t], l) {
		return api.ErrReplayForm
	}
	if len(l) > len(w.fed[t]) {
		w.fed[t] = copied(l)
	}
	return api.OK
}

// step is what Step should tell, if each record can be read but those of which fails tells.
func (w *model) step(g *register.Register, fails func(i Item) api.Errno) (Item, api.Errno) {
	at := *w
	for {
		row, err := g.Row(at.term)
		if err != api.OK {
			return Item{}, api.ErrReplayWait
		}
		known := w.fed[at.term]
		if row.Over {
			if !startsWith(row.Tail, known) {
				return Item{}, api.ErrReplayForm
			}
			known = row.Tail
		}
		all := brings(at.term, known)
		for at.entries < len(all) {
			items := all[at.entries]
			done := at.records - total(known[:at.entries]) // of the records of this entry
			if len(items) == 0 {
				at.entries++
				continue
			}
			i := items[done]
			if i.Kind == 1 {
				if err := fails(i); err != api.OK {
					return Item{}, err
				}
				at.records++
				done++
			}
			if i.Kind == 2 || done == len(items) {
				at.entries++
			}
			*w = at
			return i, api.OK
		}
		if !row.Over {
			*w = at
			return Item{}, api.ErrReplayWait
		}
		at.term, at.entries, at.records = at.term+1, 0, 0
	}
}

// pair is a replay, and what it should tell.
type pair struct {
	*Replay
	w *model
}

// aPair is at the beginning of a term.
func aPair(t *testing.T, first int) pair {
	t.Helper()
	return pair{fresh(t, first), &model{term: first, fed: map[int][]entry.Entry{}}}
}

// want fails, if the replay is elsewhere.
func (x pair) want(t *testing.T) {
	t.Helper()
	wantAt(t, x.Replay, x.w.term, x.w.entries, x.w.records)
}

// wantFeed fails, if Feed does not tell what it should.
func (x pair) wantFeed(t *testing.T, g *register.Register, n int, l []entry.Entry) {
	t.Helper()
	wantFed(t, x.Replay, g, n, l, x.w.feed(g, n, l))
	x.want(t)
}

// wantStep fails, if Step does not tell what it should: of each record that it asks for that error.
func (x pair) wantStep(t *testing.T, g *register.Register, err api.Errno) (Item, api.Errno) {
	t.Helper()
	want, wantErr := x.w.step(g, func(Item) api.Errno { return err })
	i, told := x.Step(g, func(t, shard, local int) (api.Record, api.Errno) { return kept(t, shard, local), err })
	if told != wantErr || !alike(i, want) {
		t.Fatalf("Step = %v, %d, want %v, %d", i, told, want, wantErr)
	}
	x.want(t)
	return i, told
}

// wantTheRest fails, if All does not tell all that it should.
func (x pair) wantTheRest(t *testing.T, g *register.Register) []Item {
	t.Helper()
	var l []Item
	i, err := x.w.step(g, func(Item) api.Errno { return api.OK })
	for ; err == api.OK; i, err = x.w.step(g, func(Item) api.Errno { return api.OK }) {
		l = append(l, i)
	}
	wantAll(t, x.Replay, g, l, err)
	x.want(t)
	return l
}

// aChain is any of so many shards.
func aChain(chance *rand.Rand, shards int) []entry.Entry {
	var l []entry.Entry
	last := make([]int, shards)
	for n := range chance.IntN(9) {
		if chance.IntN(3) == 0 {
			l = append(l, aTrim(n+1, chance.IntN(3)))
			continue
		}
		last = slices.Clone(last)
		for k := range last {
			last[k] += max(0, chance.IntN(5)-2)
		}
		l = append(l, aCut(n+1, last...))
	}
	return l
}

// spoiled is a chain of which one entry is another one, which may be a chain still.
func spoiled(chance *rand.Rand, l []entry.Entry) []entry.Entry {
	l = copied(l)
	if len(l) == 0 {
		return []entry.Entry{{}}
	}
	e := &l[chance.IntN(len(l))]
	switch chance.IntN(4) {
	case 0:
		e.Number++
	case 1:
		*e = aTrim(e.Number, 9)
	case 2:
		e.Cut = append(e.Cut, 9)
	case 3:
		if e.Kind == 1 {
			e.Cut[0]++
		}
	}
	return l
}

// world is a register that goes on from term to term.
type world struct {
	*register.Register
	entries []entry.Entry // what those of the current term are to be
}

// aWorld has a first term alone.
func aWorld(t *testing.T, chance *rand.Rand, first int) *world {
	t.Helper()
	shards := 1 + chance.IntN(3)
	g, err := register.New(config(first, shards))
	if err != api.OK {
		t.Fatal(err)
	}
	return &world{g, aChain(chance, shards)}
}

// goOn makes the current term over.
func (g *world) goOn(t *testing.T, chance *rand.Rand) {
	t.Helper()
	if g.Current() == api.MaxTerms {
		return
	}
	shards := 1 + chance.IntN(3)
	wantInstalled(t, g.Register, shards, g.entries)
	g.entries = aChain(chance, shards)
}

func TestScriptsOfCalls(t *testing.T) { // P16.1, P16.2, P16.3
	chance := rand.New(rand.NewPCG(16, 1))
	for range 300 {
		first := 1 + chance.IntN(api.MaxTerms)
		g := aWorld(t, chance, first)
		x := aPair(t, min(max(first+chance.IntN(4)-1, 1), api.MaxTerms))
		for range 80 {
			l := g.entries
			switch chance.IntN(8) {
			case 0:
				x.wantFeed(t, g.Register, g.Current(), spoiled(chance, l))
			case 1, 2:
				x.wantFeed(t, g.Register, g.Current(), l[:chance.IntN(len(l)+1)])
			case 3:
				x.wantFeed(t, g.Register, g.Current()+chance.IntN(5)-2, l)
			case 4:
				x.wantStep(t, g.Register, api.Errno(chance.IntN(2)*int(api.ErrSegmentNone)))
			case 5, 6:
				x.wantStep(t, g.Register, api.OK)
			case 7:
				if chance.IntN(3) == 0 {
					g.goOn(t, chance)
				}
			}
		}
		x.wantTheRest(t, g.Register)
	}
}

func TestSeveralReplaysOfOneRegister(t *testing.T) { // P16.4
	chance := rand.New(rand.NewPCG(16, 2))
	for range 100 {
		first := 1 + chance.IntN(api.MaxTerms-10)
		g := aWorld(t, chance, first)
		xs := []pair{aPair(t, first), aPair(t, first), aPair(t, first)}
		told := make([][]Item, len(xs))
		for range 200 {
			k := chance.IntN(len(xs))
			l := g.entries
			switch chance.IntN(6) {
			case 0:
				xs[k].wantFeed(t, g.Register, g.Current(), l[:chance.IntN(len(l)+1)])
			case 1, 2, 3, 4:
				gets := []api.Errno{api.OK, api.OK, api.ErrShardTerm}[chance.IntN(3)]
				if i, err := xs[k].wantStep(t, g.Register, gets); err == api.OK {
					told[k] = append(told[k], i)
				}
			case 5:
				if chance.IntN(5) == 0 {
					g.goOn(t, chance)
				}
			}
			wantOneRow(t, told)
		}
		for k, x := range xs { // each one is fed all that the last term has: all have come as far
			x.wantFeed(t, g.Register, g.Current(), g.entries)
			told[k] = append(told[k], x.wantTheRest(t, g.Register)...)
		}
		wantOneRow(t, told)
		for _, l := range told {
			if len(l) != len(told[0]) {
				t.Fatalf("one told %d items, another one %d", len(l), len(told[0]))
			}
			wantRising(t, l)
		}
	}
}

// wantOneRow fails, if one row of items is not the beginning of another one.
func wantOneRow(t *testing.T, told [][]Item) {
	t.Helper()
	for _, l := range told {
		n := min(len(l), len(told[0]))
		if !slices.EqualFunc(l[:n], told[0][:n], Same) {
			t.Fatalf("one told %v, another one %v", told[0][:n], l[:n])
		}
	}
}

// wantRising fails, if the places of the records do not rise, or a position is left out.
func wantRising(t *testing.T, l []Item) {
	t.Helper()
	last := api.Seq{}
	for _, i := range l {
		if i.Kind != 1 {
			continue
		}
		if i.Seq.Term < last.Term || i.Seq.Term == last.Term && i.Seq.Pos != last.Pos+1 || i.Seq.Term > last.Term && i.Seq.Pos != 0 {
			t.Fatalf("%v stands behind %v", i.Seq, last)
		}
		last = i.Seq
	}
}

func TestReplaysThatWereFedDifferentBeginnings(t *testing.T) { // P16.4
	want := append(itemsOfMixed(1), itemsOfMixed(2)...)
	for i := range len(mixed()) + 1 {
		for k := range len(mixed()) + 1 {
			g := aRegister(t, 1)
			a, b := fresh(t, 1), fresh(t, 1)
			wantFed(t, a, g, 1, mixed()[:i], api.OK)
			wantFed(t, b, g, 1, mixed()[:k], api.OK)
			one, _ := a.All(g, get)
			other, _ := b.All(g, get)
			wantInstalled(t, g, 2, mixed())
			wantFed(t, a, g, 2, mixed()[:k], api.OK)
			wantFed(t, b, g, 2, mixed(), api.OK)
			more, _ := a.All(g, get)
			one = append(one, more...)
			more, _ = b.All(g, get)
			other = append(other, more...)
			if !slices.EqualFunc(one, want[:len(one)], alike) || !slices.EqualFunc(other, want, alike) || len(one) < len(want)/2 {
				t.Fatalf("they told %v and %v", one, other)
			}
			wantRising(t, other)
		}
	}
}

func TestALongTermStepByStep(t *testing.T) { // P16.3
	var l []entry.Entry
	for n := 1; n <= 30000; n++ {
		l = append(l, aCut(n, n/2, (n+1)/2))
	}
	g := aRegister(t, 1, l)
	r := fresh(t, 1)
	wantFed(t, r, g, 2, l, api.OK)
	for n := 1; n <= 2; n++ {
		for pos := range l {
			wantItem(t, r, g, aRecord(n, pos, (pos+1)%2, pos/2))
			wantAt(t, r, n, pos+1, pos+1)
		}
	}
	wantError(t, r, g, get, api.ErrReplayWait)
}

func TestRegistersThatAreAskedInTurn(t *testing.T) { // P16.2, P16.3
	g := aRegister(t, 1, mixed())
	other := aRegister(t, 1) // of which the term 1 is not over
	third := aRegister(t, 1, append(mixed(), aCut(12, 6, 4), aCut(13, 6, 6)))
	r := fresh(t, 1)
	wantItem(t, r, g, trimmed(5))
	wantError(t, r, other, get, api.ErrReplayWait) // it was fed nothing
	wantAt(t, r, 1, 1, 0)
	wantItem(t, r, third, aRecord(1, 0, 1, 0))
	wantItem(t, r, g, aRecord(1, 1, 1, 1))
	wantFed(t, r, other, 1, mixed()[:4], api.OK)
	wantItem(t, r, other, trimmed(6))
	wantError(t, r, other, get, api.ErrReplayWait)
	wantItem(t, r, g, trimmed(0)) // what was fed is a beginning of that tail
	wantFed(t, r, other, 1, append(mixed(), aTrim(12, 1)), api.OK)
	wantError(t, r, g, get, api.ErrReplayForm) // now it is not
	wantError(t, r, third, get, api.ErrReplayForm)
	wantAll(t, r, other, append(itemsOfMixed(1)[5:], trimmed(1)), api.ErrReplayWait)
	wantAt(t, r, 1, 12, 9)
	again := fresh(t, 1)
	wantAll(t, again, g, itemsOfMixed(1), api.ErrReplayWait)
	wantAt(t, again, 2, 0, 0)
	wantError(t, again, other, get, api.ErrReplayWait) // it has no term 2
	wantAt(t, again, 2, 0, 0)
}

func TestTailsOfTwoRegistersInTurn(t *testing.T) { // P16.3
	g := aRegister(t, 1, mixed())
	other := aRegister(t, 1, []entry.Entry{aTrim(1, 5), aTrim(2, 1), aTrim(3, 2), aTrim(4, 3)})
	r := fresh(t, 1)
	wantItem(t, r, g, trimmed(5))
	wantItem(t, r, other, trimmed(1))
	wantItem(t, r, g, aRecord(1, 0, 1, 0))
	wantItem(t, r, g, aRecord(1, 1, 1, 1))
	wantItem(t, r, other, trimmed(3))
	wantItem(t, r, g, trimmed(0))
}

func TestRegistersThatDoNotGoWithOneAnother(t *testing.T) { // R1
	chance := rand.New(rand.NewPCG(16, 3))
	for range 300 {
		gs := []*world{aWorld(t, chance, 3), aWorld(t, chance, 4), aWorld(t, chance, 3)}
		r := fresh(t, 3)
		last := api.Seq{}
		for range 60 {
			g := gs[chance.IntN(len(gs))]
			switch chance.IntN(5) {
			case 0:
				g.goOn(t, chance)
			case 1:
				r.Feed(g.Register, g.Current(), g.entries)
			default:
				i, err := r.Step(g.Register, get)
				if err != api.OK || i.Kind != 1 {
					continue
				}
				if i.Seq.Term < last.Term || i.Seq.Term == last.Term && i.Seq.Pos <= last.Pos && last.Term > 0 {
					t.Fatalf("%v stands behind %v", i.Seq, last)
				}
				last = i.Seq
			}
		}
	}
}

func TestGetThatAsksTheReplay(t *testing.T) { // R1
	g := aRegister(t, 1, mixed())
	r := fresh(t, 1)
	within := func(t, shard, local int) (api.Record, api.Errno) {
		r.Where()
		r.Feed(g, 2, mixed())
		r.Step(g, get)
		r.All(g, none)
		g.Install(config(3, 2), mixed())
		return get(t, shard, local)
	}
	for range 100 {
		r.Step(g, within)
	}
}

func TestGetThatPanics(t *testing.T) { // R1, R2
	broken := func(t, shard, local int) (api.Record, api.Errno) { panic("no such shard") }
	g := aRegister(t, 1, mixed())
	for _, bad := range []Get{broken, nil} {
		r := fresh(t, 1)
		if l, err := r.All(g, bad); err != api.ErrArg || !slices.EqualFunc(l, itemsOfMixed(1)[:1], alike) {
			t.Fatalf("All = %v, %d", l, err)
		}
		wantError(t, r, g, bad, api.ErrArg)
		wantAt(t, r, 1, 1, 0)
		wantAll(t, r, g, itemsOfMixed(1)[1:], api.ErrReplayWait)
	}
}

func TestWhatWasHandedInStaysAsItWas(t *testing.T) { // R5
	g := aRegister(t, 1, mixed())
	r := fresh(t, 1)
	l, wrong := mixed(), append(mixed(), aCut(12, 0, 0))
	wantFed(t, r, g, 2, l, api.OK)
	wantFed(t, r, g, 2, l, api.OK)
	wantFed(t, r, g, 2, wrong, api.ErrReplayForm)
	wantAll(t, r, g, append(itemsOfMixed(1), itemsOfMixed(2)...), api.ErrReplayWait)
	if !slices.EqualFunc(l, mixed(), entry.Same) || !slices.EqualFunc(wrong, append(mixed(), aCut(12, 0, 0)), entry.Same) {
		t.Errorf("now it is %v, %v", l, wrong)
	}
	row, err := g.Row(1)
	if err != api.OK || !row.Over || !term.Same(row.C, config(1, 2)) || !slices.EqualFunc(row.Tail, mixed(), entry.Same) || g.Current() != 2 {
		t.Errorf("the register has %v, %d", row, err)
	}
}

func TestWhatIsFedLaterChangesNothing(t *testing.T) { // R6
	g := aRegister(t, 1)
	r := fresh(t, 1)
	for n := 1; n <= len(mixed()); n++ {
		l := mixed()[:n]
		wantFed(t, r, g, 1, l, api.OK)
		for _, e := range l {
			for k := range e.Cut {
				e.Cut[k] = 77
			}
		}
		clear(l)
		wantFed(t, r, g, 1, mixed()[:n], api.OK) // it is there as it was
	}
	wantAll(t, r, g, itemsOfMixed(1), api.ErrReplayWait)
	wantInstalled(t, g, 2, mixed())
	wantAll(t, r, g, nil, api.ErrReplayWait)
}

func TestWhatIsToldIsTheCallersOwn(t *testing.T) { // R6
	one := []int{1, 2, 3} // of each record the same
	shared := func(t, shard, local int) (api.Record, api.Errno) { return api.Record{Tags: one}, api.OK }
	g := aRegister(t, 1, mixed())
	r := fresh(t, 1)
	i, _ := r.Step(g, shared)
	i.Tag = 77
	i, _ = r.Step(g, shared)
	i.Record.Tags[0] = 77
	_ = append(i.Record.Tags[:1], 77, 77)
	l, _ := r.All(g, shared)
	for n := range l {
		if l[n].Kind == 1 && !slices.Equal(l[n].Record.Tags, []int{1, 2, 3}) {
			t.Fatalf("the item %d has the tags %v", n, l[n].Record.Tags)
		}
		for k := range l[n].Record.Tags {
			l[n].Record.Tags[k] = 88
		}
	}
	if !slices.Equal(one, []int{1, 2, 3}) {
		t.Errorf("what get told has now the tags %v", one)
	}
	clear(l)
	wantFed(t, r, g, 2, mixed(), api.OK)
	wantAll(t, r, g, itemsOfMixed(2), api.ErrReplayWait)
}

func TestTwoReplaysShareNothing(t *testing.T) { // R6
	g := aRegister(t, 1)
	a, b := fresh(t, 1), fresh(t, 1)
	l := mixed()
	wantFed(t, a, g, 1, l, api.OK)
	wantAll(t, b, g, nil, api.ErrReplayWait)
	wantFed(t, b, g, 1, []entry.Entry{aTrim(1, 1)}, api.OK)
	wantAll(t, a, g, itemsOfMixed(1), api.ErrReplayWait)
	wantAll(t, b, g, []Item{trimmed(1)}, api.ErrReplayWait)
}

func TestTheSameCallsTellTheSame(t *testing.T) { // R7
	told := func() []Item {
		chance := rand.New(rand.NewPCG(16, 4))
		g := aWorld(t, chance, 1)
		x := aPair(t, 1)
		var all []Item
		for range 30 {
			x.wantFeed(t, g.Register, g.Current(), g.entries)
			all = append(all, x.wantTheRest(t, g.Register)...)
			g.goOn(t, chance)
		}
		return all
	}
	if !slices.EqualFunc(told(), told(), alike) {
		t.Error("they told another thing")
	}
}

func TestNothingPanics(t *testing.T) { // R1
	numbers := append(wrongTerms(), 1, 2, 3, api.MaxTerms-1, api.MaxTerms)
	for _, first := range []int{1, 2, api.MaxTerms} {
		g := aRegister(t, min(first, 62), mixed(), nil)
		r := fresh(t, first)
		for _, n := range numbers {
			for _, m := range numbers {
				r.Feed(g, n, []entry.Entry{{Number: m, Kind: n, Cut: numbers, Tag: m, Upto: api.Seq{Term: m, Pos: n}}})
				r.Feed(g, g.Current(), []entry.Entry{aCut(1, n, m)})
				r.Feed(g, g.Current(), []entry.Entry{aTrim(1, n), aCut(2, numbers...), aCut(m)})
				Same(Item{Kind: n, Tag: m}, Item{Record: api.Record{Tags: numbers}})
			}
			r.Step(g, none)
			r.All(g, none)
			r.Where()
		}
		r.Step(g, func(int, int, int) (api.Record, api.Errno) {
			return api.Record{Tags: numbers}, math.MinInt
		})
	}
}
