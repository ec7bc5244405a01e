package order

import (
	"math"
	"math/rand/v2"
	"slices"
	"testing"

	"carabiner/api"
	"carabiner/entry"
	"carabiner/vector"
)

// aCut is an entry of Kind 1, aTrim one of Kind 2.
func aCut(number int, v ...int) entry.Entry { return entry.Entry{Number: number, Kind: 1, Cut: v} }

func aTrim(number int) entry.Entry {
	return entry.Entry{Number: number, Kind: 2, Tag: 5, Upto: api.Seq{Term: 1, Pos: 9}}
}

// chapter has the cuts of the chapter's examples.
func chapter() []entry.Entry { return []entry.Entry{aCut(1, 1, 2), aCut(2, 3, 2), aCut(3, 3, 4)} }

// mixed has trims ahead of the first cut, between cuts, and behind the last one, and cuts that bring nothing.
func mixed() []entry.Entry {
	return []entry.Entry{
		aTrim(1), aTrim(2),
		aCut(3, 0, 0, 0),
		aCut(4, 0, 2, 0), // of one shard alone
		aTrim(5),
		aCut(6, 1, 2, 3), // of the first and the last one
		aCut(7, 1, 2, 3), // of none
		aTrim(8), aTrim(9),
		aCut(10, 2, 4, 5), // of all
		aCut(11, 2, 4, 6), // of the last one alone
		aTrim(12),
	}
}

// wrongEntries are some of that number that are not right for two shards, whatever was ahead of them.
func wrongEntries(number int) []entry.Entry {
	l := []entry.Entry{
		{}, {Number: number}, {Number: number, Kind: 3, Cut: []int{90, 90}}, {Number: number, Kind: -1, Cut: []int{90, 90}},
		aCut(number), aCut(number, 90), aCut(number, 90, 90, 90), aCut(number, 90, -1), aCut(number, 90, 1<<40+1),
		aCut(number, 90, math.MinInt), aCut(number, math.MaxInt, 90), aCut(number, make([]int, api.MaxShards+1)...),
	}
	for _, f := range []func(e *entry.Entry){
		func(e *entry.Entry) { e.Tag = 1 },
		func(e *entry.Entry) { e.Upto.Term = 1 },
		func(e *entry.Entry) { e.Upto.Pos = 1 },
	} {
		l = append(l, changed(aCut(number, 90, 90), f))
	}
	for _, f := range []func(e *entry.Entry){
		func(e *entry.Entry) { e.Cut = []int{90, 90} },
		func(e *entry.Entry) { e.Tag = -1 },
		func(e *entry.Entry) { e.Tag = 1<<30 + 1 },
		func(e *entry.Entry) { e.Upto.Term = 0 },
		func(e *entry.Entry) { e.Upto.Term = api.MaxTerms + 1 },
		func(e *entry.Entry) { e.Upto.Pos = -1 },
		func(e *entry.Entry) { e.Upto.Pos = 1<<40 + 1 },
	} {
		l = append(l, changed(aTrim(number), f))
	}
	return l
}

// changed is an entry that is changed.
func changed(e entry.Entry, f func(e *entry.Entry)) entry.Entry {
	f(&e)
	return e
}

// wrongShards are numbers of which no order is.
func wrongShards() []int {
	return []int{0, -1, -2, math.MinInt, api.MaxShards + 1, 100, 1 << 40, math.MaxInt}
}

// model is what an order should have: record by record its place, and what was known behind each entry.
type model struct {
	places []Place
	last   []int
	after  []int
}

// add is what it should tell of an entry of its shards.
func (w *model) add(e entry.Entry) api.Errno {
	if !entry.Right(e) || e.Number != len(w.after) {
		return api.ErrOrderForm
	}
	if e.Kind == 1 {
		total := 0
		for k, n := range e.Cut {
			if len(e.Cut) != len(w.last) || n < w.last[k] {
				return api.ErrOrderForm
			}
			total += n
		}
		if total > 1000000 {
			return api.ErrArg
		}
		for k, n := range e.Cut {
			for ; w.last[k] < n; w.last[k]++ {
				w.places = append(w.places, Place{k, w.last[k]})
			}
		}
	}
	w.after = append(w.after, len(w.places))
	return api.OK
}

// pair is an order, and what it should have.
type pair struct {
	*Order
	w *model
}

// fresh has no entries.
func fresh(t *testing.T, shards int) pair {
	t.Helper()
	o, err := New(shards)
	if err != api.OK || o == nil {
		t.Fatalf("New(%d) = %v, %d", shards, o, err)
	}
	x := pair{o, &model{last: make([]int, shards), after: []int{0}}}
	x.want(t)
	return x
}

// with has these entries.
func with(t *testing.T, shards int, l ...entry.Entry) pair {
	t.Helper()
	x := fresh(t, shards)
	for _, e := range l {
		x.wantAdd(t, e, api.OK)
	}
	return x
}

// wantAdd fails, if Add does not tell that, or anything else is there behind it.
func (x pair) wantAdd(t *testing.T, e entry.Entry, want api.Errno) {
	t.Helper()
	if err := x.w.add(e); err != want {
		t.Fatalf("Add(%v): this test is wrong: %d", e, err)
	}
	if err := x.Add(e); err != want {
		t.Fatalf("Add(%v) = %d, want %d", e, err, want)
	}
	x.want(t)
}

// want fails, if an order does not tell that it has just that.
func (x pair) want(t *testing.T) {
	t.Helper()
	x.wantCounts(t)
	x.wantPlaces(t, 1)
}

// wantCounts fails, if it has not so many entries and records.
func (x pair) wantCounts(t *testing.T) {
	t.Helper()
	if x.Len() != len(x.w.places) || x.Entries() != len(x.w.after)-1 || !slices.Equal(x.Cut(), x.w.last) {
		t.Fatalf("Len = %d, Entries = %d, Cut = %v, want %d, %d, %v", x.Len(), x.Entries(), x.Cut(), len(x.w.places), len(x.w.after)-1, x.w.last)
	}
	if x.Len() != vector.Total(x.Cut()) {
		t.Fatalf("Len = %d, but Cut = %v", x.Len(), x.Cut())
	}
	for n, want := range x.w.after {
		if had, is := x.After(n); had != want || !is {
			t.Fatalf("After(%d) = %d, %v, want %d", n, had, is, want)
		}
	}
	for _, n := range []int{-1, -2, math.MinInt, len(x.w.after), len(x.w.after) + 1, 1 << 40, math.MaxInt} {
		if had, is := x.After(n); had != 0 || is {
			t.Fatalf("After(%d) = %d, %v", n, had, is)
		}
	}
}

// wantPlaces fails, if a record does not stand where it should, each of them, or each of so many.
func (x pair) wantPlaces(t *testing.T, each int) {
	t.Helper()
	for pos := 0; pos < len(x.w.places); pos += each {
		x.wantPlace(t, pos)
	}
	x.wantNone(t)
}

// wantPlace fails, if there is another record at a position, or that one elsewhere.
func (x pair) wantPlace(t *testing.T, pos int) {
	t.Helper()
	want := x.w.places[pos]
	if p, is := x.At(pos); p != want || !is {
		t.Fatalf("At(%d) = %v, %v, want %v", pos, p, is, want)
	}
	if at, is := x.Find(want); at != pos || !is {
		t.Fatalf("Find(%v) = %d, %v, want %d", want, at, is, pos)
	}
}

// wantNone fails, if a record is told where none is.
func (x pair) wantNone(t *testing.T) {
	t.Helper()
	for _, pos := range []int{-1, -2, math.MinInt, len(x.w.places), len(x.w.places) + 1, 1 << 40, math.MaxInt} {
		if p, is := x.At(pos); p != (Place{}) || is {
			t.Fatalf("At(%d) = %v, %v", pos, p, is)
		}
	}
	for k, n := range x.w.last {
		for _, local := range []int{-1, -2, math.MinInt, n, n + 1, 1 << 40, math.MaxInt} {
			x.wantNotFound(t, Place{k, local})
		}
	}
	for _, k := range []int{-1, math.MinInt, len(x.w.last), len(x.w.last) + 1, math.MaxInt} {
		x.wantNotFound(t, Place{k, 0})
		x.wantNotFound(t, Place{k, -1})
	}
}

// wantNotFound fails, if a record has a position.
func (x pair) wantNotFound(t *testing.T, p Place) {
	t.Helper()
	if at, is := x.Find(p); at != 0 || is {
		t.Fatalf("Find(%v) = %d, %v", p, at, is)
	}
}

func TestExamplesOfTheChapter(t *testing.T) { // P15.1, P15.2
	o, n := Of(2, chapter())
	if n != 3 {
		t.Fatalf("Of = %d", n)
	}
	for pos, want := range []Place{{0, 0}, {1, 0}, {1, 1}, {0, 1}} {
		if p, is := o.At(pos); p != want || !is {
			t.Errorf("At(%d) = %v, %v, want %v", pos, p, is, want)
		}
	}
	if pos, is := o.Find(Place{1, 3}); pos != 6 || !is {
		t.Errorf("Find = %d, %v", pos, is)
	}
	if had, is := o.After(1); had != 3 || !is {
		t.Errorf("After(1) = %d, %v", had, is)
	}
}

func TestExampleOfTheWhole(t *testing.T) { // P15.2
	o, _ := Of(2, []entry.Entry{aCut(1, 1, 2), aCut(2, 3, 2)})
	for pos, want := range []Place{{0, 0}, {1, 0}, {1, 1}, {0, 1}, {0, 2}} {
		if p, is := o.At(pos); p != want || !is {
			t.Errorf("At(%d) = %v, %v, want %v", pos, p, is, want)
		}
	}
}

func TestNewOfEachNumberOfShards(t *testing.T) { // P15.1
	for shards := 1; shards <= api.MaxShards; shards++ {
		x := fresh(t, shards)
		if !slices.Equal(x.Cut(), vector.Zero(shards)) || x.Entries() != 0 || x.Len() != 0 {
			t.Errorf("New(%d) has Cut %v, Entries %d, Len %d", shards, x.Cut(), x.Entries(), x.Len())
		}
		v := make([]int, shards)
		v[shards-1] = 2
		x.wantAdd(t, aCut(1, v...), api.OK)
	}
}

func TestNewAndOfOfWrongNumbersOfShards(t *testing.T) { // P15.1
	for _, shards := range wrongShards() {
		if o, err := New(shards); o != nil || err != api.ErrArg {
			t.Errorf("New(%d) = %v, %d", shards, o, err)
		}
		for _, l := range [][]entry.Entry{nil, {aTrim(1)}, chapter(), mixed(), wrongEntries(1)} {
			if o, n := Of(shards, l); o != nil || n != 0 {
				t.Errorf("Of(%d, %v) = %v, %d", shards, l, o, n)
			}
		}
	}
}

func TestAddOfTheFirstEntry(t *testing.T) { // P15.1, P15.2
	for _, e := range []entry.Entry{aTrim(1), aCut(1, 0, 0), aCut(1, 0, 3), aCut(1, 3, 0), aCut(1, 2, 3)} {
		with(t, 2, e)
	}
}

func TestAddOfCutsAndTrims(t *testing.T) { // P15.1, P15.2
	x := with(t, 3, mixed()...)
	want := []Place{
		{1, 0}, {1, 1},
		{0, 0}, {2, 0}, {2, 1}, {2, 2},
		{0, 1}, {1, 2}, {1, 3}, {2, 3}, {2, 4},
		{2, 5},
	}
	if !slices.Equal(x.w.places, want) {
		t.Errorf("they stand by %v", x.w.places)
	}
	for n, want := range []int{0, 0, 0, 0, 2, 2, 6, 6, 6, 6, 11, 12, 12} {
		if had, is := x.After(n); had != want || !is {
			t.Errorf("After(%d) = %d, %v, want %d", n, had, is, want)
		}
	}
}

func TestCutThatBringsRecordsOfOneShardOfTheMost(t *testing.T) { // P15.1, P15.2
	for k := range api.MaxShards {
		x := fresh(t, api.MaxShards)
		v := make([]int, api.MaxShards)
		for n := 1; n <= 3; n++ {
			v = slices.Clone(v)
			v[k] += n
			x.wantAdd(t, aCut(n, v...), api.OK)
		}
		for i := range v {
			v[i] += 2
		}
		x.wantAdd(t, aCut(4, v...), api.OK)
	}
}

func TestAddThatIsRefused(t *testing.T) { // P15.1
	for _, l := range [][]entry.Entry{nil, {aTrim(1)}, {aCut(1, 0, 0)}, chapter(), {aTrim(1), aCut(2, 4, 4), aTrim(3)}} {
		x := with(t, 2, l...)
		next := len(l) + 1
		for _, e := range wrongEntries(next) {
			x.wantAdd(t, e, api.ErrOrderForm)
		}
		for _, n := range []int{math.MinInt, -1, 0, next - 1, next + 1, next + 2, 1 << 40, 1<<40 + 1, math.MaxInt} {
			x.wantAdd(t, aTrim(n), api.ErrOrderForm)
			x.wantAdd(t, aCut(n, 90, 90), api.ErrOrderForm)
			x.wantAdd(t, aCut(n, 1<<40, 90), api.ErrOrderForm)
		}
		x.wantAdd(t, aCut(next, 90, 90), api.OK) // it goes on as if none of them had been
	}
}

func TestCutOfOtherNumbersOfShards(t *testing.T) { // P15.1
	for shards := 1; shards <= api.MaxShards; shards++ {
		x := fresh(t, shards)
		for n := 1; n <= 2; n++ {
			for of := 1; of <= api.MaxShards; of++ {
				v := slices.Repeat([]int{n}, of)
				if of != shards {
					x.wantAdd(t, aCut(n, v...), api.ErrOrderForm)
				}
			}
			x.wantAdd(t, aCut(n, slices.Repeat([]int{n}, shards)...), api.OK)
		}
	}
}

func TestCutThatDoesNotCoverTheLastOne(t *testing.T) { // P15.1
	x := with(t, 3, mixed()...)
	for _, v := range [][]int{{1, 4, 6}, {2, 3, 6}, {2, 4, 5}, {1, 9, 9}, {9, 9, 0}, {0, 0, 0}, {1, 1 << 40, 6}} {
		x.wantAdd(t, aCut(13, v...), api.ErrOrderForm)
	}
	x.wantAdd(t, aCut(13, 2, 4, 6), api.OK)
}

func TestAsManyRecordsAsThereMayBe(t *testing.T) { // P15.1, P15.2, P15.3
	for _, ahead := range [][]entry.Entry{nil, {aCut(1, 0, 1), aTrim(2)}, {aCut(1, 399999, 599999)}} {
		x := fresh(t, 2)
		for _, e := range ahead {
			x.wantAddOfMany(t, e, api.OK)
		}
		next := len(ahead) + 1
		for _, v := range [][]int{{400001, 600000}, {400000, 600001}, {1 << 40, 600000}, {1 << 40, 1 << 40}} {
			x.wantAddOfMany(t, aCut(next, v...), api.ErrArg)
		}
		x.wantAddOfMany(t, aCut(next+1, 1<<40, 1<<40), api.ErrOrderForm) // that comes first
		x.wantAddOfMany(t, aCut(next, 400000, 600000), api.OK)
		x.wantAddOfMany(t, aCut(next+1, 400000, 600001), api.ErrArg)
		x.wantAddOfMany(t, aCut(next+1, 400001, 600000), api.ErrArg)
		x.wantAddOfMany(t, aCut(next+1, 399999, 600001), api.ErrOrderForm)
		x.wantAddOfMany(t, aCut(next+1, 400000, 600000), api.OK) // it brings none
		x.wantAddOfMany(t, aTrim(next+2), api.OK)
		if x.Len() != 1000000 {
			t.Errorf("Len = %d", x.Len())
		}
		x.wantPlaces(t, 1)
	}
}

// wantAddOfMany is wantAdd where there are too many records to ask for all of them each time.
func (x pair) wantAddOfMany(t *testing.T, e entry.Entry, want api.Errno) {
	t.Helper()
	if err := x.w.add(e); err != want {
		t.Fatalf("Add(%v): this test is wrong: %d", e, err)
	}
	if err := x.Add(e); err != want {
		t.Fatalf("Add(%v) = %d, want %d", e, err, want)
	}
	x.wantCounts(t)
	x.wantPlaces(t, 99991)
}

func TestTheMostRecordsOfOneShardAndOfTheMost(t *testing.T) { // P15.1, P15.2
	x := fresh(t, 1)
	x.wantAddOfMany(t, aCut(1, 1000001), api.ErrArg)
	x.wantAddOfMany(t, aCut(1, 1000000), api.OK)
	y := fresh(t, api.MaxShards)
	all := slices.Repeat([]int{1 << 40}, api.MaxShards)
	y.wantAddOfMany(t, aCut(1, all...), api.ErrArg)
	all = slices.Repeat([]int{125000}, api.MaxShards)
	more := slices.Clone(all)
	more[3]++
	y.wantAddOfMany(t, aCut(1, more...), api.ErrArg)
	y.wantAddOfMany(t, aCut(1, all...), api.OK)
}

func TestManyEntries(t *testing.T) { // P15.1, P15.2, P15.3
	x := fresh(t, 2)
	for n := 1; n <= 100000; n++ {
		e := aCut(n, n/2, (n+1)/2)
		if n%5 == 0 {
			e = aTrim(n)
		}
		if err := x.Add(e); err != api.OK || x.w.add(e) != api.OK {
			t.Fatalf("Add of the entry %d = %d", n, err)
		}
	}
	x.want(t)
}

func TestOf(t *testing.T) { // P15.1
	for _, l := range [][]entry.Entry{nil, {}, {aTrim(1)}, {aCut(1, 0, 0, 0)}, {aCut(1, 4, 0, 2)}, mixed()} {
		o, n := Of(3, l)
		if o == nil || n != len(l) {
			t.Fatalf("Of(%v) = %v, %d", l, o, n)
		}
		w := with(t, 3, l...).w
		pair{o, w}.want(t)
		pair{o, w}.wantAdd(t, aCut(n+1, 9, 9, 9), api.OK) // it goes on
	}
}

func TestOfWhereOneIsRefused(t *testing.T) { // P15.1, P15.2
	l := mixed()
	for i := range l {
		n := i + 1
		for _, e := range []entry.Entry{
			{}, aTrim(n + 1), aTrim(n - 1), aCut(n, 9, 9), aCut(n, 9, 9, 9, 9), aCut(n, 9, 9, -1),
			aCut(n, 1000000, 9, 9), aCut(n, 1<<40, 1<<40, 1<<40), {Number: n, Kind: 3},
		} {
			wrong := slices.Clone(l) // with more behind what is refused
			wrong[i] = e
			o, many := Of(3, wrong)
			if o == nil || many != i {
				t.Fatalf("Of(%v) = %v, %d, want %d", wrong, o, many, i)
			}
			x := pair{o, with(t, 3, l[:i]...).w}
			x.want(t)
			for _, e := range l[i:] { // it goes on with what is right
				x.wantAdd(t, e, api.OK)
			}
		}
	}
}

func TestOfWhereMoreComesThatWouldBeRightAgain(t *testing.T) { // P15.1
	l := []entry.Entry{aCut(1, 1, 1), aCut(2, 0, 1), aCut(2, 2, 2), aCut(3, 3, 3)}
	o, n := Of(2, l)
	if n != 1 {
		t.Fatalf("Of = %d", n)
	}
	pair{o, with(t, 2, l[0]).w}.want(t)
}

func TestWhatWasHandedInStaysAsItWas(t *testing.T) { // R5
	l := append(mixed(), aCut(13, 0, 0, 0), aCut(14, 9, 9))
	Of(3, l)
	o, _ := New(3)
	for _, e := range l {
		o.Add(e)
		o.Add(e)
	}
	if !slices.EqualFunc(l, append(mixed(), aCut(13, 0, 0, 0), aCut(14, 9, 9)), entry.Same) {
		t.Errorf("now it is %v", l)
	}
}

func TestWhatIsHandedInLaterChangesNothing(t *testing.T) { // R6
	x := fresh(t, 3)
	for _, e := range mixed() {
		x.wantAdd(t, e, api.OK)
		for k := range e.Cut {
			e.Cut[k] = 77
		}
		x.want(t)
	}
	l := mixed()
	o, _ := Of(3, l)
	for _, e := range l {
		for k := range e.Cut {
			e.Cut[k] = 77
		}
	}
	clear(l)
	pair{o, with(t, 3, mixed()...).w}.want(t)
}

func TestWhatIsToldIsTheCallersOwn(t *testing.T) { // R6
	x := fresh(t, 3)
	for i := range len(mixed()) + 1 {
		for range 2 {
			v := x.Cut()
			for k := range v {
				v[k] = 77
			}
			_ = append(v[:1], 77, 77, 77)
			x.want(t)
		}
		if i < len(mixed()) {
			x.wantAdd(t, mixed()[i], api.OK)
		}
	}
}

func TestTwoOrdersShareNothing(t *testing.T) { // R6
	l := mixed()
	a, _ := Of(3, l)
	b, _ := Of(3, l)
	x, y := pair{a, with(t, 3, l...).w}, pair{b, with(t, 3, l...).w}
	x.wantAdd(t, aCut(13, 9, 9, 9), api.OK)
	y.want(t)
	y.wantAdd(t, aCut(13, 2, 9, 6), api.OK)
	x.want(t)
}

// atRandom adds any entry: of the next Number mostly, a trim, or a cut of any records, now and then one that is refused.
func (x pair) atRandom(t *testing.T, chance *rand.Rand) {
	t.Helper()
	n := len(x.w.after)
	if chance.IntN(8) == 0 {
		n += chance.IntN(5) - 2
	}
	e := aTrim(n)
	if chance.IntN(4) > 0 {
		v := slices.Clone(x.w.last)
		for k := range v {
			if chance.IntN(2) == 0 {
				v[k] += chance.IntN(4)
			}
			if chance.IntN(30) == 0 {
				v[k]--
			}
		}
		if chance.IntN(20) == 0 {
			v = append(v, 3)
		}
		if chance.IntN(30) == 0 {
			v[0] = 1 << 40
		}
		e = aCut(n, v...)
	}
	copied := model{slices.Clone(x.w.places), slices.Clone(x.w.last), slices.Clone(x.w.after)}
	x.wantAdd(t, e, copied.add(e))
}

func TestScriptsOfCalls(t *testing.T) { // P15.1, P15.2, P15.3
	chance := rand.New(rand.NewPCG(15, 1))
	for range 120 {
		x := fresh(t, 1+chance.IntN(api.MaxShards))
		for range 50 {
			x.atRandom(t, chance)
		}
	}
}

func TestRowsAtRandom(t *testing.T) { // P15.1
	chance := rand.New(rand.NewPCG(15, 2))
	for range 500 {
		shards := 1 + chance.IntN(3)
		var l []entry.Entry
		v := make([]int, shards)
		for n := range chance.IntN(9) {
			v = slices.Clone(v)
			v[chance.IntN(shards)] += chance.IntN(5) - chance.IntN(2)
			l = append(l, aCut(n+1, v...))
			if chance.IntN(3) == 0 {
				l[n] = aTrim(n + 1)
			}
		}
		w := &model{last: make([]int, shards), after: []int{0}}
		many := 0
		for many < len(l) && w.add(l[many]) == api.OK {
			many++
		}
		o, n := Of(shards, l)
		if n != many {
			t.Fatalf("Of(%d, %v) = %d, want %d", shards, l, n, many)
		}
		pair{o, w}.want(t)
	}
}

func TestWhatHasAPositionKeepsIt(t *testing.T) { // P15.3
	chance := rand.New(rand.NewPCG(15, 3))
	for range 30 {
		x := fresh(t, 1+chance.IntN(4))
		var was []Place
		for range 60 {
			x.atRandom(t, chance)
			for pos, p := range was {
				if now, is := x.At(pos); now != p || !is {
					t.Fatalf("At(%d) was %v, is %v, %v", pos, p, now, is)
				}
			}
			for pos := len(was); pos < x.Len(); pos++ {
				p, _ := x.At(pos)
				was = append(was, p)
			}
		}
	}
}

func TestRecordsOfOneShardStandByTheirLocalNumbers(t *testing.T) { // P15.3
	chance := rand.New(rand.NewPCG(15, 4))
	for range 30 {
		x := fresh(t, 1+chance.IntN(4))
		for range 60 {
			x.atRandom(t, chance)
		}
		next := make([]int, len(x.Cut()))
		for pos := range x.Len() {
			p, is := x.At(pos)
			if !is || p.Local != next[p.Shard] {
				t.Fatalf("At(%d) = %v, %v, want the local number %d", pos, p, is, next[p.Shard])
			}
			next[p.Shard]++
		}
		if !slices.Equal(next, x.Cut()) {
			t.Fatalf("there are %v, Cut = %v", next, x.Cut())
		}
	}
}

func TestFindAndAtGoWithEachOther(t *testing.T) { // P15.3
	chance := rand.New(rand.NewPCG(15, 5))
	for range 30 {
		x := fresh(t, 1+chance.IntN(4))
		for range 40 {
			x.atRandom(t, chance)
		}
		for k, n := range x.Cut() {
			for local := -2; local < n+3; local++ {
				pos, is := x.Find(Place{k, local})
				if is != (local >= 0 && local < n) {
					t.Fatalf("Find(%d, %d) = %d, %v", k, local, pos, is)
				}
				if p, has := x.At(pos); is && (p != Place{k, local} || !has) {
					t.Fatalf("Find(%d, %d) = %d, At = %v, %v", k, local, pos, p, has)
				}
			}
		}
	}
}

func TestNothingPanics(t *testing.T) { // R1
	some := append(wrongShards(), 1, 2, 3, 8)
	for _, shards := range some {
		o, err := New(shards)
		if err != api.OK {
			continue
		}
		for _, a := range some {
			o.Add(entry.Entry{Number: a, Kind: a, Cut: some, Tag: a, Upto: api.Seq{Term: a, Pos: a}})
			o.Add(aCut(o.Entries()+1, a, a))
			o.Add(aCut(o.Entries()+1, some...))
			o.Add(aTrim(a))
			o.At(a)
			o.After(a)
			for _, b := range some {
				o.Find(Place{a, b})
			}
		}
	}
}

func TestTheSameCallsTellTheSame(t *testing.T) { // R7
	told := func() []int {
		chance := rand.New(rand.NewPCG(15, 6))
		x := fresh(t, 4)
		var all []int
		for range 100 {
			x.atRandom(t, chance)
			p, _ := x.At(chance.IntN(x.Len() + 2))
			pos, _ := x.Find(Place{chance.IntN(4), chance.IntN(9)})
			had, _ := x.After(chance.IntN(9))
			all = append(append(all, x.Len(), p.Shard, p.Local, pos, had), x.Cut()...)
		}
		return all
	}
	if !slices.Equal(told(), told()) {
		t.Error("they told another thing")
	}
}
