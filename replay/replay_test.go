package replay

import (
	"math"
	"slices"
	"strconv"
	"testing"

	"carabiner/api"
	"carabiner/entry"
	"carabiner/register"
	"carabiner/term"
)

// config is one of a term, and of so many shards.
func config(t, shards int) term.Config {
	c := term.Config{Term: t, Sequencers: []int{0, 1, 2}}
	for range shards {
		c.Shards = append(c.Shards, []int{3, 4})
	}
	return c
}

// aCut is an entry of Kind 1, aTrim one of Kind 2.
func aCut(number int, v ...int) entry.Entry { return entry.Entry{Number: number, Kind: 1, Cut: v} }

func aTrim(number, tag int) entry.Entry {
	return entry.Entry{Number: number, Kind: 2, Tag: tag, Upto: api.Seq{Term: 1, Pos: 9}}
}

// mixed has for two shards trims ahead of the first cut, between cuts, and behind the last one, and cuts that bring nothing: 9 records in all.
func mixed() []entry.Entry {
	return []entry.Entry{
		aTrim(1, 5),
		aCut(2, 0, 0),
		aCut(3, 0, 2), // of one shard alone
		aTrim(4, 6), aTrim(5, 0),
		aCut(6, 3, 3), // of both
		aCut(7, 3, 3), aCut(8, 3, 3),
		aTrim(9, 7),
		aCut(10, 5, 4),
		aTrim(11, 8),
	}
}

// wrongTerms are numbers of no term.
func wrongTerms() []int {
	return []int{math.MinInt, math.MinInt + 1, -1, 0, api.MaxTerms + 1, 1 << 40, math.MaxInt}
}

// copied are these entries with cuts of their own.
func copied(l []entry.Entry) []entry.Entry {
	l = slices.Clone(l)
	for i := range l {
		l[i].Cut = slices.Clone(l[i].Cut)
	}
	return l
}

// aRegister has a first term, of two shards, and one more behind each of these tails.
func aRegister(t *testing.T, first int, tails ...[]entry.Entry) *register.Register {
	t.Helper()
	g, err := register.New(config(first, 2))
	if err != api.OK {
		t.Fatal(err)
	}
	for _, tail := range tails {
		wantInstalled(t, g, 2, tail)
	}
	return g
}

// wantInstalled makes the current term over, with that tail; the next one has so many shards.
func wantInstalled(t *testing.T, g *register.Register, shards int, tail []entry.Entry) {
	t.Helper()
	if err := g.Install(config(g.Current()+1, shards), tail); err != api.OK {
		t.Fatalf("Install(%v) = %d", tail, err)
	}
}

// kept is the record that each shard keeps: another one for each place.
func kept(t, shard, local int) api.Record {
	r := api.Record{Id: api.Id{Client: t, Number: 1000*shard + local}, Data: strconv.Itoa(local)}
	for k := range local % 3 {
		r.Tags = append(r.Tags, 10*shard+k+1)
	}
	return r
}

// get tells what is kept.
func get(t, shard, local int) (api.Record, api.Errno) { return kept(t, shard, local), api.OK }

// none tells that no record can be read.
func none(t, shard, local int) (api.Record, api.Errno) {
	return kept(t, shard, local), api.ErrSegmentNone
}

// aRecord is the item of a record that stands at a position of a term; trimmed is that of a trim.
func aRecord(t, pos, shard, local int) Item {
	return Item{Kind: 1, Seq: api.Seq{Term: t, Pos: pos}, Record: kept(t, shard, local)}
}

func trimmed(tag int) Item { return Item{Kind: 2, Tag: tag, Upto: api.Seq{Term: 1, Pos: 9}} }

// itemsOfMixed are those of a term of which mixed are the entries.
func itemsOfMixed(t int) []Item {
	return []Item{
		trimmed(5),
		aRecord(t, 0, 1, 0), aRecord(t, 1, 1, 1),
		trimmed(6), trimmed(0),
		aRecord(t, 2, 0, 0), aRecord(t, 3, 0, 1), aRecord(t, 4, 0, 2), aRecord(t, 5, 1, 2),
		trimmed(7),
		aRecord(t, 6, 0, 3), aRecord(t, 7, 0, 4), aRecord(t, 8, 1, 3),
		trimmed(8),
	}
}

// alike tells whether these items are the same, asked field by field.
func alike(a, b Item) bool {
	return a.Kind == b.Kind && a.Seq == b.Seq && a.Tag == b.Tag && a.Upto == b.Upto &&
		a.Record.Id == b.Record.Id && a.Record.Data == b.Record.Data && slices.Equal(a.Record.Tags, b.Record.Tags)
}

// fresh is at the beginning of a term.
func fresh(t *testing.T, first int) *Replay {
	t.Helper()
	r, err := New(first)
	if err != api.OK || r == nil {
		t.Fatalf("New(%d) = %v, %d", first, r, err)
	}
	wantAt(t, r, first, 0, 0)
	return r
}

// wantAt fails, if a replay is elsewhere.
func wantAt(t *testing.T, r *Replay, n, entries, records int) {
	t.Helper()
	if a, b, c := r.Where(); a != n || b != entries || c != records {
		t.Fatalf("Where = %d, %d, %d, want %d, %d, %d", a, b, c, n, entries, records)
	}
}

// wantFed fails, if Feed does not tell that.
func wantFed(t *testing.T, r *Replay, g *register.Register, n int, l []entry.Entry, want api.Errno) {
	t.Helper()
	a, b, c := r.Where()
	if err := r.Feed(g, n, l); err != want {
		t.Fatalf("Feed(%d, %v) = %d, want %d", n, l, err, want)
	}
	wantAt(t, r, a, b, c)
}

// wantItem fails, if Step does not tell that item.
func wantItem(t *testing.T, r *Replay, g *register.Register, want Item) {
	t.Helper()
	if i, err := r.Step(g, get); err != api.OK || !alike(i, want) {
		t.Fatalf("Step = %v, %d, want %v", i, err, want)
	}
}

// wantError fails, if Step does not tell that error, and nothing else.
func wantError(t *testing.T, r *Replay, g *register.Register, get Get, want api.Errno) {
	t.Helper()
	if i, err := r.Step(g, get); err != want || !alike(i, Item{}) {
		t.Fatalf("Step = %v, %d, want %d", i, err, want)
	}
}

// wantAll fails, if All does not tell these items, and that error.
func wantAll(t *testing.T, r *Replay, g *register.Register, want []Item, wantErr api.Errno) {
	t.Helper()
	l, err := r.All(g, get)
	if err != wantErr || !slices.EqualFunc(l, want, alike) {
		t.Fatalf("All = %v, %d, want %v, %d", l, err, want, wantErr)
	}
}

func TestExamplesOfTheChapter(t *testing.T) { // P16.1, P16.2, P16.3
	g, _ := register.New(config(1, 1))
	r := fresh(t, 1)
	wantFed(t, r, g, 1, []entry.Entry{aCut(1, 1)}, api.OK)
	wantItem(t, r, g, aRecord(1, 0, 0, 0))
	wantError(t, r, g, get, api.ErrReplayWait)
	wantFed(t, r, g, 1, []entry.Entry{aCut(1, 2)}, api.ErrReplayForm)
}

func TestNewOfEachTerm(t *testing.T) { // P16.1
	for first := 1; first <= api.MaxTerms; first++ {
		r := fresh(t, first)
		g := aRegister(t, first)
		wantFed(t, r, g, first, []entry.Entry{aCut(1, 0, 1)}, api.OK)
		wantAll(t, r, g, []Item{aRecord(first, 0, 1, 0)}, api.ErrReplayWait)
		wantAt(t, r, first, 1, 1)
	}
}

func TestNewOfWrongTerms(t *testing.T) { // P16.1
	for _, first := range wrongTerms() {
		if r, err := New(first); r != nil || err != api.ErrArg {
			t.Errorf("New(%d) = %v, %d", first, r, err)
		}
	}
}

func TestWhereBehindEachItem(t *testing.T) { // P16.1, P16.3
	g := aRegister(t, 4)
	r := fresh(t, 4)
	wantFed(t, r, g, 4, mixed(), api.OK)
	where := [][2]int{
		{1, 0},
		{2, 1}, {3, 2}, // the empty one ahead of the cut is done with its first record, the cut with its last
		{4, 2}, {5, 2},
		{5, 3}, {5, 4}, {5, 5}, {6, 6},
		{9, 6}, // both empty ones are done with the trim behind them
		{9, 7}, {9, 8}, {10, 9},
		{11, 9},
	}
	for i, want := range itemsOfMixed(4) {
		wantItem(t, r, g, want)
		wantAt(t, r, 4, where[i][0], where[i][1])
	}
	for range 3 {
		wantError(t, r, g, get, api.ErrReplayWait)
		wantAt(t, r, 4, 11, 9)
	}
}

func TestWhereBehindATermsEnd(t *testing.T) { // P16.1, P16.3
	g := aRegister(t, 1, []entry.Entry{aCut(1, 1, 0)})
	r := fresh(t, 1)
	wantItem(t, r, g, aRecord(1, 0, 0, 0))
	wantAt(t, r, 1, 1, 1) // the next term is gone to just when more is asked
	for range 2 {
		wantError(t, r, g, get, api.ErrReplayWait)
		wantAt(t, r, 2, 0, 0)
	}
	wantFed(t, r, g, 2, []entry.Entry{aCut(1, 0, 1)}, api.OK)
	wantItem(t, r, g, aRecord(2, 0, 1, 0))
	wantAt(t, r, 2, 1, 1)
}

func TestSame(t *testing.T) { // P16.1
	some := func() Item {
		return Item{
			Kind: 1, Seq: api.Seq{Term: 2, Pos: 3}, Tag: 4, Upto: api.Seq{Term: 5, Pos: 6},
			Record: api.Record{Id: api.Id{Client: 7, Number: 8}, Tags: []int{9, 10}, Data: "ab"},
		}
	}
	for _, i := range append(itemsOfMixed(1), Item{}, some()) {
		if !Same(i, i) {
			t.Errorf("%v is not the same as itself", i)
		}
	}
	if !Same(some(), some()) {
		t.Error("lists of their own are not the same")
	}
	for n, f := range []func(i *Item){
		func(i *Item) { i.Kind = 2 },
		func(i *Item) { i.Seq.Term++ },
		func(i *Item) { i.Seq.Pos++ },
		func(i *Item) { i.Tag++ },
		func(i *Item) { i.Upto.Term++ },
		func(i *Item) { i.Upto.Pos++ },
		func(i *Item) { i.Record.Id.Client++ },
		func(i *Item) { i.Record.Id.Number++ },
		func(i *Item) { i.Record.Tags[1]++ },
		func(i *Item) { i.Record.Tags = i.Record.Tags[:1] },
		func(i *Item) { i.Record.Tags = append(i.Record.Tags, 11) },
		func(i *Item) { i.Record.Tags = nil },
		func(i *Item) { i.Record.Data = "ac" },
		func(i *Item) { i.Record.Data = "" },
	} {
		other := some()
		f(&other)
		if Same(some(), other) || Same(other, some()) {
			t.Errorf("%d: the same as %v", n, other)
		}
	}
	if !Same(Item{Record: api.Record{Tags: []int{}}}, Item{}) { // R3
		t.Error("no tags are not the same as an empty list")
	}
}

func TestFeedOfNoEntries(t *testing.T) { // P16.2
	g := aRegister(t, 1)
	r := fresh(t, 1)
	for _, l := range [][]entry.Entry{nil, {}} {
		wantFed(t, r, g, 1, l, api.OK)
		wantAll(t, r, g, nil, api.ErrReplayWait)
	}
	wantFed(t, r, g, 1, mixed(), api.OK)
	wantFed(t, r, g, 1, nil, api.OK)
	wantAll(t, r, g, itemsOfMixed(1), api.ErrReplayWait)
}

func TestFeedOfLongerAndShorterOnes(t *testing.T) { // P16.2, P16.3
	all := itemsOfMixed(1)
	told := []int{0, 1, 1, 3, 4, 5, 9, 9, 9, 10, 13, 14} // how many items the first entries have
	for i := range told {
		for k := range told {
			g := aRegister(t, 1)
			r := fresh(t, 1)
			wantFed(t, r, g, 1, mixed()[:i], api.OK)
			wantFed(t, r, g, 1, mixed()[:i], api.OK) // the same once more
			wantAll(t, r, g, all[:told[i]], api.ErrReplayWait)
			wantAt(t, r, 1, i, countRecords(all[:told[i]]))
			wantFed(t, r, g, 1, mixed()[:k], api.OK)
			longer := max(told[i], told[k])
			wantAll(t, r, g, all[told[i]:longer], api.ErrReplayWait)
			wantAt(t, r, 1, max(i, k), countRecords(all[:longer]))
			wantFed(t, r, g, 1, mixed(), api.OK)
			wantAll(t, r, g, all[longer:], api.ErrReplayWait)
			wantAt(t, r, 1, 11, 9)
		}
	}
}

// countRecords is how many of these items are records.
func countRecords(l []Item) int {
	n := 0
	for _, i := range l {
		if i.Kind == 1 {
			n++
		}
	}
	return n
}

func TestFeedOfATermBehindAndOfOneAhead(t *testing.T) { // P16.2
	behind := aRegister(t, 1)
	g := aRegister(t, 1, mixed())
	r := fresh(t, 1)
	wantFed(t, r, g, 2, mixed()[:3], api.OK) // ahead of where it is
	wantAll(t, r, g, append(itemsOfMixed(1), trimmed(5), aRecord(2, 0, 1, 0), aRecord(2, 1, 1, 1)), api.ErrReplayWait)
	wantAt(t, r, 2, 3, 2)
	wantFed(t, r, behind, 1, mixed(), api.OK) // behind it
	wantFed(t, r, behind, 1, []entry.Entry{aTrim(1, 6)}, api.ErrReplayForm)
	wantAll(t, r, g, nil, api.ErrReplayWait)
	wantAt(t, r, 2, 3, 2)
	wantFed(t, r, g, 2, mixed()[:4], api.OK)
	wantAll(t, r, g, []Item{trimmed(6)}, api.ErrReplayWait)
}

func TestFeedOfATermThatThereIsNotOrThatIsOver(t *testing.T) { // P16.2
	g := aRegister(t, 4, mixed(), nil)
	for _, n := range append(wrongTerms(), 1, 2, 3, 4, 5, 7, 8, api.MaxTerms) {
		r := fresh(t, 4)
		for _, l := range [][]entry.Entry{nil, mixed(), {aCut(2, 1, 1)}, {{}}, {aCut(1, 1)}} { // ErrArg comes first
			wantFed(t, r, g, n, l, api.ErrArg)
		}
		wantFed(t, r, g, 6, mixed(), api.OK) // nothing of these was kept
		wantAll(t, r, g, append(itemsOfMixed(4), itemsOfMixed(6)...), api.ErrReplayWait)
	}
}

// wrongChains are some that may not be a term's of two shards.
func wrongChains() [][]entry.Entry {
	return [][]entry.Entry{
		{aCut(2, 1, 1)},                  // from another number on
		{aCut(0, 1, 1)},                  // likewise
		{aCut(1, 1, 1), aCut(3, 1, 2)},   // with a gap
		{aCut(1, 1, 1), aCut(1, 1, 2)},   // with a number twice
		{aCut(1, 1, 1), aCut(2, 0, 2)},   // with a cut that does not cover the last one
		{aCut(1, 1, 1), aCut(2, 1)},      // likewise
		{aCut(1, 1, -1)},                 // with one that is no vector
		{aCut(1, 1, 1<<40+1)},            // likewise
		{aCut(1)},                        // likewise
		{aTrim(1, -1)},                   // with a trim that is not right
		{{Number: 1, Kind: 3}},           // of no kind
		{aCut(1, 1, 1), {}},              // with nothing
		{aTrim(1, 5), aTrim(2, 1<<30+1)}, // with a trim that is not right behind one that is
		{aCut(1, 1)},                     // with a cut of fewer shards
		{aTrim(1, 5), aCut(2, 9), aTrim(3, 5)},
		{aCut(1, 1, 1, 1)},                      // of more
		{aTrim(1, 5), aCut(2, 0, 0, 0)},         // likewise
		{aCut(1, 400000, 600001)},               // with more records than there may be
		{aCut(1, 1, 1), aCut(2, 999999, 2)},     // likewise, behind some that may
		{aCut(1, 1<<40, 1<<40)},                 // likewise
		{aCut(1, 1000001, 0), aTrim(2, 5), {}},  // likewise, and with nothing
		{aCut(1, 1000001, 0), aCut(2, 1000001)}, // likewise, and with one of fewer shards
	}
}

func TestFeedThatIsRefused(t *testing.T) { // P16.2
	items := itemsOfMixed(1)
	for _, l := range wrongChains() {
		g := aRegister(t, 1)
		r := fresh(t, 1)
		wantFed(t, r, g, 1, l, api.ErrReplayForm)
		wantAll(t, r, g, nil, api.ErrReplayWait) // nothing of it is known
		wantFed(t, r, g, 1, mixed()[:6], api.OK)
		wantItem(t, r, g, items[0])
		wantFed(t, r, g, 1, l, api.ErrReplayForm)
		wantItem(t, r, g, items[1])
		wantFed(t, r, g, 1, mixed(), api.OK)
		wantFed(t, r, g, 1, l, api.ErrReplayForm)
		wantAll(t, r, g, items[2:], api.ErrReplayWait)
	}
}

func TestFeedOfWhatWouldBeRightBehindWhatWasFed(t *testing.T) { // P16.2
	g := aRegister(t, 1)
	r := fresh(t, 1)
	wantFed(t, r, g, 1, mixed()[:6], api.OK)
	wantFed(t, r, g, 1, mixed()[6:], api.ErrReplayForm) // a chain is told as a whole
	wrong := append(mixed(), aCut(12, 9, 9), aCut(13, 8, 9))
	wantFed(t, r, g, 1, wrong, api.ErrReplayForm) // not even its first ones
	wantAll(t, r, g, itemsOfMixed(1)[:9], api.ErrReplayWait)
}

func TestFeedOfAnotherChain(t *testing.T) { // P16.2
	for had := 1; had <= len(mixed()); had++ {
		for many := 1; many <= len(mixed()); many++ {
			for i := range min(had, many) {
				other := copied(mixed()[:many])
				if other[i].Kind == 1 {
					other[i] = aTrim(i+1, 5) // a cut that is not there: those behind it cover the one ahead of it
				} else {
					other[i].Tag++
				}
				g := aRegister(t, 1)
				r := fresh(t, 1)
				wantFed(t, r, g, 1, mixed()[:had], api.OK)
				wantFed(t, r, g, 1, other, api.ErrReplayForm)
				wantFed(t, r, g, 1, mixed(), api.OK)
				wantFed(t, r, g, 1, other, api.ErrReplayForm)
				wantAll(t, r, g, itemsOfMixed(1), api.ErrReplayWait)
			}
		}
	}
}

func TestFeedOfAnotherCut(t *testing.T) { // P16.2
	l := []entry.Entry{aCut(1, 1, 1), aCut(2, 3, 3), aCut(3, 5, 5)}
	for i := range l {
		for _, v := range [][]int{{2, 1}, {1, 2}} {
			g := aRegister(t, 1)
			r := fresh(t, 1)
			wantFed(t, r, g, 1, l, api.OK)
			other := copied(l)
			other[i].Cut[0] += v[0] - 1
			other[i].Cut[1] += v[1] - 1
			wantFed(t, r, g, 1, other, api.ErrReplayForm)
			wantFed(t, r, g, 1, append(other, aCut(4, 9, 9)), api.ErrReplayForm)
			wantFed(t, r, g, 1, l, api.OK)
		}
	}
}

func TestFeedOfAsManyRecordsAsThereMayBe(t *testing.T) { // P16.2
	g := aRegister(t, 1)
	r := fresh(t, 1)
	wantFed(t, r, g, 1, []entry.Entry{aCut(1, 400000, 600001)}, api.ErrReplayForm)
	wantFed(t, r, g, 1, []entry.Entry{aCut(1, 400000, 600000)}, api.OK)
	wantFed(t, r, g, 1, []entry.Entry{aCut(1, 400000, 600000), aCut(2, 400001, 600000)}, api.ErrReplayForm)
	wantFed(t, r, g, 1, []entry.Entry{aCut(1, 400000, 600000), aCut(2, 400000, 600000), aTrim(3, 5)}, api.OK)
	all, err := r.All(g, get)
	if len(all) != 1000001 || err != api.ErrReplayWait {
		t.Fatalf("All = %d items, %d", len(all), err)
	}
	for pos, shard, local := 0, 0, 0; pos < 1000000; pos, local = pos+1, local+1 {
		if pos == 400000 {
			shard, local = 1, 0
		}
		if pos%999 == 0 && !alike(all[pos], aRecord(1, pos, shard, local)) {
			t.Fatalf("at %d stands %v", pos, all[pos])
		}
	}
	wantAt(t, r, 1, 3, 1000000)
}

func TestStepOfOneShardAndOfTheMost(t *testing.T) { // P16.3
	for _, shards := range []int{1, 3, api.MaxShards} {
		g, _ := register.New(config(7, shards))
		r := fresh(t, 7)
		last := make([]int, shards)
		var l []entry.Entry
		pos := 0
		for n := 1; n <= 5; n++ {
			v := slices.Clone(last)
			for k := range v {
				v[k] += (n + k) % 3
			}
			l = append(l, aCut(n, v...))
			wantFed(t, r, g, 7, l, api.OK)
			for k := range v {
				for local := last[k]; local < v[k]; local++ {
					wantItem(t, r, g, aRecord(7, pos, k, local))
					pos++
				}
			}
			wantError(t, r, g, get, api.ErrReplayWait)
			wantAt(t, r, 7, n, pos)
			last = v
		}
	}
}

func TestCutThatBringsNothing(t *testing.T) { // P16.3
	g := aRegister(t, 1)
	r := fresh(t, 1)
	l := []entry.Entry{aCut(1, 0, 0)}
	wantFed(t, r, g, 1, l, api.OK)
	wantAt(t, r, 1, 0, 0)
	wantError(t, r, g, none, api.ErrReplayWait) // without more behind it
	wantAt(t, r, 1, 1, 0)
	l = append(l, aCut(2, 0, 0), aCut(3, 0, 0), aCut(4, 0, 1))
	wantFed(t, r, g, 1, l, api.OK)
	wantItem(t, r, g, aRecord(1, 0, 1, 0)) // with more
	wantAt(t, r, 1, 4, 1)
	l = append(l, aCut(5, 0, 1), aTrim(6, 3))
	wantFed(t, r, g, 1, l, api.OK)
	wantItem(t, r, g, trimmed(3))
	wantAt(t, r, 1, 6, 1)
	l = append(l, aCut(7, 0, 1), aCut(8, 0, 1))
	wantFed(t, r, g, 1, l, api.OK)
	wantAt(t, r, 1, 6, 1)
	for range 2 {
		wantError(t, r, g, none, api.ErrReplayWait)
		wantAt(t, r, 1, 8, 1)
	}
}

func TestStepOfATermThatTheRegisterHasNot(t *testing.T) { // P16.3
	g := aRegister(t, 4, mixed(), mixed())
	for _, first := range []int{1, 3, 7, api.MaxTerms} {
		r := fresh(t, first)
		wantError(t, r, g, get, api.ErrReplayWait)
		wantAll(t, r, g, nil, api.ErrReplayWait)
		wantAt(t, r, first, 0, 0)
	}
	for _, first := range []int{5, 6} { // from a later one on
		r := fresh(t, first)
		var want []Item
		for n := first; n < 6; n++ {
			want = append(want, itemsOfMixed(n)...)
		}
		wantAll(t, r, g, want, api.ErrReplayWait)
		wantAt(t, r, 6, 0, 0)
	}
	r := fresh(t, 7)
	wantError(t, r, g, get, api.ErrReplayWait)
	wantInstalled(t, g, 2, nil) // now it has it
	wantFed(t, r, g, 7, mixed(), api.OK)
	wantAll(t, r, g, itemsOfMixed(7), api.ErrReplayWait)
}

func TestTermsWhoseTailsHaveNoItems(t *testing.T) { // P16.3
	empty := []entry.Entry{aCut(1, 0, 0), aCut(2, 0, 0)}
	g := aRegister(t, 1, nil, mixed(), nil, nil, empty, mixed(), empty, nil)
	r := fresh(t, 1)
	wantItem(t, r, g, trimmed(5))
	wantAt(t, r, 2, 1, 0)
	wantAll(t, r, g, append(itemsOfMixed(2)[1:], itemsOfMixed(6)...), api.ErrReplayWait)
	wantAt(t, r, 9, 0, 0)
	wantInstalled(t, g, 2, empty)
	wantError(t, r, g, get, api.ErrReplayWait)
	wantAt(t, r, 10, 0, 0)
}

func TestTermsOfOtherNumbersOfShards(t *testing.T) { // P16.3
	g, _ := register.New(config(1, 1))
	wantInstalled(t, g, 3, []entry.Entry{aCut(1, 2)})
	wantInstalled(t, g, 2, []entry.Entry{aCut(1, 1, 0, 1)})
	r := fresh(t, 1)
	wantFed(t, r, g, 3, []entry.Entry{aCut(1, 1)}, api.ErrReplayForm)
	wantFed(t, r, g, 3, []entry.Entry{aCut(1, 1, 1, 1)}, api.ErrReplayForm)
	wantFed(t, r, g, 3, []entry.Entry{aCut(1, 1, 1)}, api.OK)
	wantAll(t, r, g, []Item{
		aRecord(1, 0, 0, 0), aRecord(1, 1, 0, 1),
		aRecord(2, 0, 0, 0), aRecord(2, 1, 2, 0),
		aRecord(3, 0, 0, 0), aRecord(3, 1, 1, 0),
	}, api.ErrReplayWait)
}

func TestATermThatBecomesOver(t *testing.T) { // P16.3
	items := itemsOfMixed(1)
	for fed := range len(mixed()) + 1 {
		for steps := range len(items) + 2 {
			g := aRegister(t, 1)
			r := fresh(t, 1)
			wantFed(t, r, g, 1, mixed()[:fed], api.OK)
			told := 0
			for range steps {
				if _, err := r.Step(g, get); err == api.OK {
					told++
				}
			}
			wantInstalled(t, g, 2, mixed())
			wantAll(t, r, g, items[told:], api.ErrReplayWait)
			wantAt(t, r, 2, 0, 0)
		}
	}
}

func TestATermThatBecomesOverWithAnotherTail(t *testing.T) { // P16.3
	longer := mixed()
	other := copied(mixed())
	other[6] = aTrim(7, 1)
	for _, tail := range [][]entry.Entry{nil, longer[:6], other} { // of what was fed no more than that, or something else
		for steps := range 12 {
			g := aRegister(t, 1)
			r := fresh(t, 1)
			wantFed(t, r, g, 1, longer[:7], api.OK)
			for range steps {
				r.Step(g, get)
			}
			a, b, c := r.Where()
			wantInstalled(t, g, 2, tail)
			wantFed(t, r, g, 2, longer, api.OK)
			for range 2 {
				wantError(t, r, g, get, api.ErrReplayForm)
				wantAll(t, r, g, nil, api.ErrReplayForm)
				wantAt(t, r, a, b, c)
			}
		}
	}
}

func TestATailThatAnOrderRefuses(t *testing.T) { // P16.3
	for _, tail := range [][]entry.Entry{
		{aCut(1, 400000, 600001)},
		{aTrim(1, 5), aCut(2, 1, 1), aCut(3, 1<<40, 1<<40), aTrim(4, 5)},
	} {
		g := aRegister(t, 1, tail)
		r := fresh(t, 1)
		for range 2 {
			wantError(t, r, g, get, api.ErrReplayForm) // not even what is ahead of that is told
			wantAt(t, r, 1, 0, 0)
		}
	}
	g := aRegister(t, 1, []entry.Entry{aCut(1, 400000, 600000)}) // as many as there may be
	r := fresh(t, 1)
	wantItem(t, r, g, aRecord(1, 0, 0, 0))
}

func TestErrorOfALaterTermLeavesAllAsItWas(t *testing.T) { // P16.3, R2
	wrong := []entry.Entry{aCut(1, 1000001, 0)}
	g := aRegister(t, 1, []entry.Entry{aTrim(1, 3), aCut(2, 0, 0)}, nil, wrong)
	r := fresh(t, 1)
	wantItem(t, r, g, trimmed(3))
	for range 2 {
		wantError(t, r, g, get, api.ErrReplayForm)
		wantAt(t, r, 1, 1, 0)
	}
	again := fresh(t, 1)
	wantAll(t, again, g, []Item{trimmed(3)}, api.ErrReplayForm)
	wantAt(t, again, 1, 1, 0)
	here := fresh(t, 3)
	wantError(t, here, g, get, api.ErrReplayForm)
	wantAt(t, here, 3, 0, 0)
}

func TestErrorOfGet(t *testing.T) { // P16.3, R2
	g := aRegister(t, 1, mixed(), nil, []entry.Entry{aCut(1, 0, 0), aCut(2, 0, 1)})
	for _, err := range []api.Errno{api.ErrArg, api.ErrSegmentNone, api.ErrSegmentGone, api.ErrShardTerm, api.ErrReplayForm, api.ErrReplayWait, -1, 999} {
		fails := func(t, shard, local int) (api.Record, api.Errno) { return kept(t, shard, local), err }
		r := fresh(t, 1)
		for _, want := range append(itemsOfMixed(1), aRecord(3, 0, 1, 0)) { // the last one behind empty cuts and the ends of terms
			a, b, c := r.Where()
			for range 2 {
				if want.Kind == 1 {
					wantError(t, r, g, fails, err)
				}
				wantAt(t, r, a, b, c)
			}
			wantItem(t, r, g, want)
		}
		wantAt(t, r, 3, 2, 1)
		wantError(t, r, g, fails, api.ErrReplayWait)
		wantAt(t, r, 4, 0, 0)
	}
}

func TestWhatGetIsAsked(t *testing.T) { // P16.3
	g := aRegister(t, 5, mixed())
	r := fresh(t, 5)
	wantFed(t, r, g, 6, mixed(), api.OK)
	var asked [][3]int
	noting := func(t, shard, local int) (api.Record, api.Errno) {
		asked = append(asked, [3]int{t, shard, local})
		return get(t, shard, local)
	}
	for _, n := range []int{5, 6} {
		for _, want := range itemsOfMixed(n) {
			asked = nil
			i, err := r.Step(g, noting)
			if err != api.OK || !alike(i, want) || len(asked) != 2-want.Kind {
				t.Fatalf("Step = %v, %d, want %v; asked was %v", i, err, want, asked)
			}
			if want.Kind == 1 && !alike(want, aRecord(n, want.Seq.Pos, asked[0][1], asked[0][2])) {
				t.Fatalf("for %v asked was %v", want, asked)
			}
		}
	}
	asked = nil
	if _, err := r.Step(g, noting); err != api.ErrReplayWait || len(asked) > 0 {
		t.Fatalf("Step = %d; asked was %v", err, asked)
	}
}

func TestWhateverRecordGetTells(t *testing.T) { // P16.3
	for _, told := range []api.Record{
		{}, {Tags: []int{3, 2}}, {Id: api.Id{Client: -1, Number: 1<<40 + 1}}, {Data: string(make([]byte, 2000))},
	} {
		g := aRegister(t, 1, []entry.Entry{aCut(1, 1, 0)})
		r := fresh(t, 1)
		i, err := r.Step(g, func(int, int, int) (api.Record, api.Errno) { return told, api.OK })
		if err != api.OK || !alike(i, Item{Kind: 1, Seq: api.Seq{Term: 1}, Record: told}) {
			t.Fatalf("Step = %v, %d, want %v", i, err, told)
		}
	}
}

func TestTrimsAsTheyAre(t *testing.T) { // P16.3
	var l []entry.Entry
	var want []Item
	for n, tag := range []int{0, 1, 1 << 30, 7} {
		for k, upto := range []api.Seq{{Term: 1}, {Term: api.MaxTerms, Pos: 1 << 40}} {
			l = append(l, entry.Entry{Number: 2*n + k + 1, Kind: 2, Tag: tag, Upto: upto})
			want = append(want, Item{Kind: 2, Tag: tag, Upto: upto})
		}
	}
	g := aRegister(t, 1, l)
	r := fresh(t, 1)
	wantFed(t, r, g, 2, l, api.OK)
	wantAll(t, r, g, append(want, want...), api.ErrReplayWait)
}

func TestAllUpToWhatGetTells(t *testing.T) { // P16.3
	g := aRegister(t, 1, mixed())
	items := append(itemsOfMixed(1), itemsOfMixed(2)...)
	for fail := range 18 { // which one of the records can't be read
		r := fresh(t, 1)
		wantFed(t, r, g, 2, mixed(), api.OK)
		n := 0
		upto := func(t, shard, local int) (api.Record, api.Errno) {
			if n++; n > fail {
				return kept(t, shard, local), api.ErrSegmentNone
			}
			return get(t, shard, local)
		}
		l, err := r.All(g, upto)
		if err != api.ErrSegmentNone || countRecords(l) != fail || !slices.EqualFunc(l, items[:len(l)], alike) {
			t.Fatalf("All = %v, %d", l, err)
		}
		if next := items[len(l)]; next.Kind != 1 {
			t.Fatalf("All told %d items, but %v is next", len(l), next)
		}
		a, b, c := r.Where()
		if l, err := r.All(g, none); len(l) > 0 || err != api.ErrSegmentNone {
			t.Fatalf("All = %v, %d", l, err)
		}
		wantAt(t, r, a, b, c)
		wantAll(t, r, g, items[len(l):], api.ErrReplayWait) // once more: the others
		wantAll(t, r, g, nil, api.ErrReplayWait)
	}
}

func TestAllOnceMoreBehindMoreThatWasFed(t *testing.T) { // P16.3
	g := aRegister(t, 1)
	r := fresh(t, 1)
	items := itemsOfMixed(1)
	wantAll(t, r, g, nil, api.ErrReplayWait)
	for _, x := range []struct{ fed, from, upto int }{{1, 0, 1}, {2, 1, 1}, {3, 1, 3}, {6, 3, 9}, {7, 9, 9}, {10, 9, 13}} {
		wantFed(t, r, g, 1, mixed()[:x.fed], api.OK)
		wantAll(t, r, g, items[x.from:x.upto], api.ErrReplayWait)
		wantAll(t, r, g, nil, api.ErrReplayWait)
		wantAt(t, r, 1, x.fed, countRecords(items[:x.upto]))
	}
	wantInstalled(t, g, 2, mixed())
	wantAll(t, r, g, items[13:], api.ErrReplayWait)
	wantAt(t, r, 2, 0, 0)
}
