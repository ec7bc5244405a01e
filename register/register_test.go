package register

import (
	"math"
	"math/rand/v2"
	"slices"
	"testing"

	"carabiner/api"
	"carabiner/entry"
	"carabiner/term"
)

// config is one of a term, and of so many shards; another one for each k.
func config(t, shards, k int) term.Config {
	c := term.Config{Term: t, Sequencers: []int{0, 1, 2}}
	for range shards {
		c.Shards = append(c.Shards, []int{k, 14})
	}
	return c
}

// changed is a configuration that is changed.
func changed(c term.Config, f func(c *term.Config)) term.Config {
	f(&c)
	return c
}

// aCut is an entry of Kind 1, aTrim one of Kind 2.
func aCut(number int, v ...int) entry.Entry { return entry.Entry{Number: number, Kind: 1, Cut: v} }

func aTrim(number, tag int) entry.Entry {
	return entry.Entry{Number: number, Kind: 2, Tag: tag, Upto: api.Seq{Term: 1, Pos: 9}}
}

// cuts is a chain of them, all of one shard.
func cuts(l ...int) []entry.Entry {
	var all []entry.Entry
	for i, n := range l {
		all = append(all, aCut(i+1, n))
	}
	return all
}

// tails are some of two shards: of 0, 0, 0, 5, 6, 8 and 2^41 records.
func tails() [][]entry.Entry {
	return [][]entry.Entry{
		nil,
		{aTrim(1, 5)},
		{aCut(1, 0, 0), aTrim(2, 5)},
		{aCut(1, 1, 0), aTrim(2, 5), aCut(3, 3, 2)},
		{aCut(1, 1, 0), aTrim(2, 5), aCut(3, 3, 3), aTrim(4, 0)},
		{aCut(1, 0, 8)},
		{aCut(1, 1<<40, 1<<40)},
	}
}

// wrongTails are some that are no chains as a whole.
func wrongTails() [][]entry.Entry {
	return [][]entry.Entry{
		{aCut(2, 1, 1)},                  // from another number on
		{aCut(0, 1, 1)},                  // likewise
		{aCut(1, 1, 1), aCut(3, 1, 2)},   // with a gap
		{aCut(1, 1, 1), aCut(1, 1, 2)},   // with a number twice
		{aCut(1, 1, 1), aCut(2, 0, 2)},   // with a cut that does not cover the last one
		{aCut(1, 1, 1), aCut(2, 1)},      // likewise
		{aCut(1, 1, -1)},                 // with one that is no vector
		{aCut(1, 1, 1<<40+1)},            // likewise
		{aCut(1)},                        // likewise
		{aTrim(1, -1)},                   // with a trim that is not right
		{{Number: 1, Kind: 3}},           // of no kind
		{aCut(1, 1, 1), {}},              // with nothing
		{aTrim(1, 5), aTrim(2, 1<<30+1)}, // with a trim that is not right behind one that is
	}
}

// wrongConfigs are some of a term that are not right.
func wrongConfigs(t int) []term.Config {
	var l []term.Config
	for _, s := range [][]int{nil, {0, 1}, {0, 1, 0}, {0, -1, 2}, {0, 1, api.MaxNodes}, {0, 1, 2, 3, 4, 5, 6, 7, 8}} {
		l = append(l, changed(config(t, 2, 3), func(c *term.Config) { c.Sequencers = s }))
	}
	for _, s := range [][][]int{nil, {{}}, {{3}, nil}, {{3, 3}}, {{3, 4, 5, 6}}, {{-1}}, {{api.MaxNodes}}, make([][]int, 9)} {
		l = append(l, changed(config(t, 2, 3), func(c *term.Config) { c.Shards = s }))
	}
	return l
}

// wrongTerms are numbers of no term.
func wrongTerms() []int {
	return []int{math.MinInt, math.MinInt + 1, -1, 0, api.MaxTerms + 1, 1 << 40, math.MaxInt}
}

// model is what a register should have: of each term a configuration, and of each that is over a tail.
type model struct {
	configs []term.Config
	tails   [][]entry.Entry
}

// first is the first term; has tells whether there is a term.
func (w *model) first() int { return w.configs[0].Term }

func (w *model) has(t int) bool { return t >= w.first() && t < w.first()+len(w.configs) }

// install is what it should tell of that, if the configuration is right, and the tail a chain.
func (w *model) install(c term.Config, tail []entry.Entry) api.Errno {
	if w.has(c.Term - 1) {
		for _, e := range tail {
			if e.Kind == 1 && len(e.Cut) != len(w.configs[c.Term-1-w.first()].Shards) {
				return api.ErrArg
			}
		}
	}
	if !w.has(c.Term) && !w.has(c.Term-1) {
		return api.ErrRegisterNone
	}
	if i := c.Term - w.first(); w.has(c.Term) {
		if i == 0 || !term.Same(c, w.configs[i]) || !slices.EqualFunc(tail, w.tails[i-1], entry.Same) {
			return api.ErrRegisterOther
		}
		return api.OK
	}
	w.configs = append(w.configs, ownConfig(c))
	w.tails = append(w.tails, ownTail(tail))
	return api.OK
}

// records is how many the term has that is over, of the number i.
func (w *model) records(i int) int {
	n := 0
	for _, e := range slices.Backward(w.tails[i]) {
		if e.Kind == 1 {
			for _, of := range e.Cut {
				n += of
			}
			break
		}
	}
	return n
}

// pair is a register, and what it should have.
type pair struct {
	*Register
	w *model
}

// fresh has a first term alone.
func fresh(t *testing.T, c term.Config) pair {
	t.Helper()
	r, err := New(c)
	if err != api.OK || r == nil {
		t.Fatalf("New(%v) = %v, %d", c, r, err)
	}
	x := pair{r, &model{configs: []term.Config{ownConfig(c)}}}
	x.want(t)
	return x
}

// with has the terms from first on, all of two shards, with these tails.
func with(t *testing.T, first int, tails ...[]entry.Entry) pair {
	t.Helper()
	x := fresh(t, config(first, 2, 3))
	for i, tail := range tails {
		x.wantInstall(t, config(first+i+1, 2, 3), tail, api.OK)
	}
	return x
}

// want fails, if a register does not tell that it has just that.
func (x pair) want(t *testing.T) {
	t.Helper()
	if x.First() != x.w.first() || x.Current() != x.w.first()+len(x.w.configs)-1 {
		t.Fatalf("First = %d, Current = %d, want %d and %d terms", x.First(), x.Current(), x.w.first(), len(x.w.configs))
	}
	for n := -2; n < api.MaxTerms+3; n++ {
		if !x.w.has(n) {
			x.wantNone(t, n)
		}
	}
	for _, n := range wrongTerms() {
		x.wantNone(t, n)
	}
	start := 0
	for i, c := range x.w.configs {
		over := i < len(x.w.tails)
		row, err := x.Row(c.Term)
		if err != api.OK || !term.Same(row.C, c) || row.Over != over || !over && len(row.Tail) > 0 {
			t.Fatalf("Row(%d) = %v, %d, want %v, over %v", c.Term, row, err, c, over)
		}
		if over && !slices.EqualFunc(row.Tail, x.w.tails[i], entry.Same) {
			t.Fatalf("Row(%d) = %v, %d, want the tail %v", c.Term, row, err, x.w.tails[i])
		}
		if n, err := x.Start(c.Term); n != start || err != api.OK {
			t.Fatalf("Start(%d) = %d, %d, want %d", c.Term, n, err, start)
		}
		n := 100 // the current term may have any number
		if over {
			n = x.w.records(i)
		}
		x.wantFound(t, c.Term, start, n)
		start += n
	}
	for _, n := range []int{-1, -2, -start, math.MinInt + 1, math.MinInt} {
		if at, err := x.Find(n); n < 0 && (at != (api.Seq{}) || err != api.ErrArg) {
			t.Fatalf("Find(%d) = %v, %d", n, at, err)
		}
	}
}

// wantNone fails, if there is a term.
func (x pair) wantNone(t *testing.T, n int) {
	t.Helper()
	if row, err := x.Row(n); err != api.ErrRegisterNone || row.Over || row.Tail != nil || !term.Same(row.C, term.Config{}) {
		t.Fatalf("Row(%d) = %v, %d", n, row, err)
	}
	if start, err := x.Start(n); start != 0 || err != api.ErrRegisterNone {
		t.Fatalf("Start(%d) = %d, %d", n, start, err)
	}
}

// wantFound fails, if a term that starts there has not so many records: all are asked, or the first and last ones of many.
func (x pair) wantFound(t *testing.T, number, start, n int) {
	t.Helper()
	for k := 0; k < n; k++ {
		if k == 300 && n > 700 {
			k = n - 300
		}
		if at, err := x.Find(start + k); at != (api.Seq{Term: number, Pos: k}) || err != api.OK {
			t.Fatalf("Find(%d) = %v, %d, want %d of the term %d", start+k, at, err, k, number)
		}
	}
}

// wantInstall fails, if Install does not tell that, or anything else is there behind it.
func (x pair) wantInstall(t *testing.T, c term.Config, tail []entry.Entry, want api.Errno) {
	t.Helper()
	if err := x.w.install(c, tail); err != want {
		t.Fatalf("Install(%v, %v): this test is wrong: %d", c, tail, err)
	}
	if err := x.Install(c, tail); err != want {
		t.Fatalf("Install(%v, %v) = %d, want %d", c, tail, err, want)
	}
	x.want(t)
}

// wantRefused fails, if Install does not tell ErrArg, or changes anything.
func (x pair) wantRefused(t *testing.T, c term.Config, tail []entry.Entry) {
	t.Helper()
	if err := x.Install(c, tail); err != api.ErrArg {
		t.Fatalf("Install(%v, %v) = %d", c, tail, err)
	}
	x.want(t)
}

func TestExamplesOfTheChapter(t *testing.T) { // P14.1, P14.2
	r, err := New(config(1, 2, 3))
	if err != api.OK {
		t.Fatal(err)
	}
	for i, want := range []struct {
		term int
		err  api.Errno
	}{{2, api.OK}, {4, api.ErrRegisterNone}, {2, api.OK}} {
		if err := r.Install(config(want.term, 2, 3), nil); err != want.err {
			t.Fatalf("Install %d = %d, want %d", i, err, want.err)
		}
	}
	if row, err := r.Row(3); r.Current() != 2 || err != api.ErrRegisterNone {
		t.Fatalf("Current = %d, Row(3) = %v, %d", r.Current(), row, err)
	}
}

func TestNewOfEachFirstTerm(t *testing.T) { // P14.1
	for n := 1; n <= api.MaxTerms; n++ {
		for _, shards := range []int{1, 2, api.MaxShards} {
			fresh(t, config(n, shards, 3))
		}
	}
}

func TestNewOfAConfigurationThatIsNotRight(t *testing.T) { // P14.1
	wrong := append(wrongConfigs(1), term.Config{})
	for _, n := range wrongTerms() {
		wrong = append(wrong, config(n, 2, 3))
	}
	for _, c := range wrong {
		if r, err := New(c); r != nil || err != api.ErrArg {
			t.Errorf("New(%v) = %v, %d", c, r, err)
		}
	}
}

func TestEachTermUpToTheLast(t *testing.T) { // P14.1, P14.2, P14.3, P14.4
	for _, first := range []int{1, 2, 30, api.MaxTerms - 1, api.MaxTerms} {
		x := fresh(t, config(first, 2, 3))
		for n := first + 1; n <= api.MaxTerms; n++ {
			x.wantInstall(t, config(n, 2, n%14), tails()[n%7], api.OK)
		}
		x.wantRefused(t, config(api.MaxTerms+1, 2, 3), nil) // there is none behind it
	}
}

func TestInstallOfTheNextTermWithEachTail(t *testing.T) { // P14.2, P14.3
	for _, tail := range append(tails(), []entry.Entry{}) {
		for _, first := range []int{1, 7} {
			x := with(t, first, tail)
			x.wantInstall(t, config(first+1, 2, 3), tail, api.OK) // the same once more
			x.wantInstall(t, config(first+2, 2, 3), tail, api.OK)
		}
	}
}

func TestTailsOfAsManyShardsAsTheTermAheadHas(t *testing.T) { // P14.2
	for had := 1; had <= api.MaxShards; had++ {
		for of := 1; of <= api.MaxShards; of++ {
			x := fresh(t, config(1, 2, 3))
			x.wantInstall(t, config(2, had, 3), tails()[3], api.OK)
			v := make([]int, of)
			v[0] = 7
			next := config(3, of, 4) // how many shards this one has is not asked
			for _, tail := range [][]entry.Entry{{aCut(1, v...)}, {aTrim(1, 5), aCut(2, v...), aTrim(3, 5)}} {
				want := api.ErrArg
				if of == had {
					want = api.OK
				}
				y := fresh(t, config(2, had, 3))
				x.wantInstall(t, changed(next, func(c *term.Config) { c.Term = x.Current() + 1 }), tail, want)
				y.wantInstall(t, next, tail, want)
				if want == api.OK {
					x = y
				}
			}
			x.wantInstall(t, config(x.Current()+1, 1, 4), []entry.Entry{aTrim(1, 5)}, api.OK) // a trim fits any
		}
	}
}

func TestInstallOfATermThatIsThereAlready(t *testing.T) { // P14.2, P14.4
	x := with(t, 4, tails()[3], tails()[4], nil, tails()[5])
	for range 2 {
		for i, n := range []int{5, 6, 7, 8} {
			tail := x.w.tails[i]
			x.wantInstall(t, config(n, 2, 3), tail, api.OK)
			x.wantInstall(t, config(n, 2, 4), tail, api.ErrRegisterOther) // another configuration
			x.wantInstall(t, config(n, 3, 3), tail, api.ErrRegisterOther)
			x.wantInstall(t, changed(config(n, 2, 3), func(c *term.Config) { c.Sequencers = []int{0, 2, 1} }), tail, api.ErrRegisterOther)
			longer := append(slices.Clone(tail), aTrim(len(tail)+1, 7))
			x.wantInstall(t, config(n, 2, 3), longer, api.ErrRegisterOther)
			if len(tail) > 0 {
				x.wantInstall(t, config(n, 2, 3), nil, api.ErrRegisterOther) // a shorter tail
				x.wantInstall(t, config(n, 2, 3), tail[:len(tail)-1], api.ErrRegisterOther)
				other := ownTail(tail)
				other[len(other)-1] = aTrim(len(other), 9)
				x.wantInstall(t, config(n, 2, 3), other, api.ErrRegisterOther) // of the same length
			}
			x.wantInstall(t, config(n, 2, 4), longer, api.ErrRegisterOther)
		}
	}
	x.wantInstall(t, config(5, 2, 3), []entry.Entry{aCut(1, 1, 0), aTrim(2, 5), aCut(3, 3, 3)}, api.ErrRegisterOther) // another cut
}

func TestInstallOfAnEmptyTailOnceMore(t *testing.T) { // P14.2, P14.4
	x := with(t, 1, nil, []entry.Entry{})
	x.wantInstall(t, config(2, 2, 3), []entry.Entry{}, api.OK)
	x.wantInstall(t, config(3, 2, 3), nil, api.OK)
}

func TestInstallOfTheFirstTerm(t *testing.T) { // P14.2
	for _, first := range []int{1, 2, api.MaxTerms} {
		x := fresh(t, config(first, 2, 3))
		for range 2 {
			for _, tail := range append(tails(), cuts(1, 2)) { // of any number of shards, since there is no term ahead
				x.wantInstall(t, config(first, 2, 3), tail, api.ErrRegisterOther)
				x.wantInstall(t, config(first, 2, 4), tail, api.ErrRegisterOther)
				x.wantInstall(t, config(first, 1, 3), tail, api.ErrRegisterOther)
			}
			if first < api.MaxTerms && x.Current() == first {
				x.wantInstall(t, config(first+1, 2, 3), nil, api.OK)
			}
		}
	}
}

func TestInstallOfATermThatIsNotTheNext(t *testing.T) { // P14.2
	x := with(t, 20, tails()[3], nil)
	for n := 1; n <= api.MaxTerms; n++ {
		if n >= 20 && n <= 23 {
			continue
		}
		for _, tail := range append(tails(), cuts(1, 2)) { // of any number of shards, since there is no term ahead
			x.wantInstall(t, config(n, 2, 3), tail, api.ErrRegisterNone)
			x.wantInstall(t, config(n, 1, 4), tail, api.ErrRegisterNone)
		}
	}
	x.wantInstall(t, config(23, 2, 3), tails()[4], api.OK)
}

func TestInstallThatIsRefused(t *testing.T) { // P14.2
	x := with(t, 4, tails()[3], nil, tails()[5])
	for n := 1; n <= 10; n++ { // ahead of the first, the first, one that is there, the next, and behind it: ErrArg comes first
		for _, c := range wrongConfigs(n) {
			x.wantRefused(t, c, nil)
			x.wantRefused(t, c, tails()[3])
		}
		for _, tail := range wrongTails() {
			x.wantRefused(t, config(n, 2, 3), tail)
		}
	}
	for _, n := range wrongTerms() {
		x.wantRefused(t, config(n, 2, 3), nil)
		x.wantRefused(t, config(n, 2, 3), cuts(1))
	}
	for n := 5; n <= 8; n++ { // those with a term ahead
		x.wantRefused(t, config(n, 2, 3), cuts(1, 2))
		x.wantRefused(t, config(n, 2, 4), cuts(1, 2))
		x.wantRefused(t, config(n, 2, 3), []entry.Entry{aTrim(1, 5), aCut(2, 1, 1, 1)})
	}
	x.wantRefused(t, term.Config{}, nil)
}

func TestStartBehindSeveralThatAreOver(t *testing.T) { // P14.3
	x := with(t, 2, tails()[3], nil, tails()[1], tails()[4], tails()[2], tails()[5], tails()[3])
	for i, want := range []int{0, 5, 5, 5, 11, 11, 19, 24} {
		if n, err := x.Start(2 + i); n != want || err != api.OK {
			t.Errorf("Start(%d) = %d, %d, want %d", 2+i, n, err, want)
		}
	}
	for _, n := range []int{1, 10, 0, -1, math.MinInt, math.MaxInt} {
		if start, err := x.Start(n); start != 0 || err != api.ErrRegisterNone {
			t.Errorf("Start(%d) = %d, %d", n, start, err)
		}
	}
}

func TestFindThroughTermsThatHaveNone(t *testing.T) { // P14.3, P14.4
	x := with(t, 2, nil, tails()[3], nil, tails()[1], tails()[4], tails()[2])
	for _, want := range []struct {
		pos int
		at  api.Seq
	}{
		{0, api.Seq{Term: 3}}, {4, api.Seq{Term: 3, Pos: 4}}, // the last one of a term
		{5, api.Seq{Term: 6}}, {10, api.Seq{Term: 6, Pos: 5}}, // the first one of the next
		{11, api.Seq{Term: 8}}, {12, api.Seq{Term: 8, Pos: 1}}, {1 << 40, api.Seq{Term: 8, Pos: 1<<40 - 11}},
		{math.MaxInt, api.Seq{Term: 8, Pos: math.MaxInt - 11}},
	} {
		if at, err := x.Find(want.pos); at != want.at || err != api.OK {
			t.Errorf("Find(%d) = %v, %d, want %v", want.pos, at, err, want.at)
		}
	}
	for _, pos := range []int{-1, -2, math.MinInt} {
		if at, err := x.Find(pos); at != (api.Seq{}) || err != api.ErrArg {
			t.Errorf("Find(%d) = %v, %d", pos, at, err)
		}
	}
}

func TestFindOfOneThatHasTheFirstTermAlone(t *testing.T) { // P14.3
	r, _ := New(config(9, 1, 3))
	for _, pos := range []int{0, 1, 1 << 40, math.MaxInt} {
		if at, err := r.Find(pos); at != (api.Seq{Term: 9, Pos: pos}) || err != api.OK {
			t.Errorf("Find(%d) = %v, %d", pos, at, err)
		}
	}
	if at, err := r.Find(-1); at != (api.Seq{}) || err != api.ErrArg {
		t.Errorf("Find(-1) = %v, %d", at, err)
	}
}

func TestTheGreatestNumbers(t *testing.T) { // P14.3, P14.4
	most := make([]int, api.MaxShards)
	for k := range most {
		most[k] = 1 << 40
	}
	x := fresh(t, config(1, api.MaxShards, 3))
	for n := 2; n <= api.MaxTerms; n++ {
		x.wantInstall(t, config(n, api.MaxShards, 3), []entry.Entry{aCut(1, most...)}, api.OK)
	}
	if n, err := x.Start(api.MaxTerms); n != 63*8<<40 || err != api.OK {
		t.Errorf("Start = %d, %d", n, err)
	}
}

func TestALongTail(t *testing.T) { // P14.2, P14.3
	var tail []entry.Entry
	for n := 1; n <= 2000; n++ {
		tail = append(tail, aCut(n, n, 2*n))
	}
	x := with(t, 1, tail, tail[:1999])
	if n, _ := x.Start(3); n != 3*2000+3*1999 {
		t.Errorf("Start(3) = %d", n)
	}
}

func TestWhatWasHandedInStaysAsItWas(t *testing.T) { // R5
	c, next, tail := config(1, 2, 3), config(2, 2, 4), tails()[4]
	r, _ := New(c)
	r.Install(next, tail)
	r.Install(next, tail)
	r.Install(config(3, 2, 5), tails()[6])
	r.Install(next, nil)
	if !term.Same(c, config(1, 2, 3)) || !term.Same(next, config(2, 2, 4)) || !slices.EqualFunc(tail, tails()[4], entry.Same) {
		t.Errorf("now it is %v, %v, %v", c, next, tail)
	}
}

// spoil writes into all lists of these.
func spoil(c term.Config, tail []entry.Entry) {
	for i := range c.Sequencers {
		c.Sequencers[i] = 9
	}
	for _, l := range c.Shards {
		for i := range l {
			l[i] = 9
		}
	}
	clear(c.Shards)
	for _, e := range tail {
		for i := range e.Cut {
			e.Cut[i] = 99
		}
	}
	clear(tail)
}

func TestWhatIsHandedInLaterChangesNothing(t *testing.T) { // R6
	x := fresh(t, config(1, 2, 3))
	for n := 2; n <= 9; n++ {
		c, tail := config(n, 2, 3), tails()[n%7]
		x.wantInstall(t, c, tail, api.OK)
		spoil(c, tail)
		x.want(t)
	}
	c := config(5, 2, 3)
	r, _ := New(c)
	spoil(c, nil)
	y := pair{r, &model{configs: []term.Config{config(5, 2, 3)}}}
	y.want(t)
}

func TestWhatIsToldIsTheCallersOwn(t *testing.T) { // R6
	x := with(t, 3, tails()[3], nil, tails()[4], tails()[5])
	for range 2 {
		for n := 3; n <= 7; n++ {
			row, _ := x.Row(n)
			spoil(row.C, row.Tail)
			if len(row.Tail) > 0 {
				_ = append(row.Tail[:1], aTrim(2, 77)) // where there is room behind it, that is the caller's, too
			}
			x.want(t)
		}
	}
}

func TestTwoRegistersShareNothing(t *testing.T) { // R6
	c, tail := config(2, 2, 3), tails()[3]
	x, y := fresh(t, config(1, 2, 3)), fresh(t, config(1, 2, 3))
	x.wantInstall(t, c, tail, api.OK)
	y.want(t)
	y.wantInstall(t, config(2, 2, 7), nil, api.OK)
	x.want(t)
}

// atRandom asks for any install: of one that is there, of the next, or of any, with any tail.
func (x pair) atRandom(t *testing.T, chance *rand.Rand) {
	t.Helper()
	n := x.First() - 2 + chance.IntN(len(x.w.configs)+4)
	if chance.IntN(3) == 0 {
		n = x.Current() + 1
	}
	n = min(max(n, 1), api.MaxTerms)
	c := config(n, 1+chance.IntN(2), 3+chance.IntN(2))
	of := 1 + chance.IntN(2)
	if i := n - 1 - x.First(); x.w.has(n-1) && chance.IntN(5) > 0 {
		of = len(x.w.configs[i].Shards)
	}
	var tail []entry.Entry
	last := make([]int, of)
	for number := range chance.IntN(5) {
		if chance.IntN(3) == 0 {
			tail = append(tail, aTrim(number+1, chance.IntN(3)))
			continue
		}
		last = slices.Clone(last)
		last[chance.IntN(of)] += chance.IntN(3)
		tail = append(tail, aCut(number+1, last...))
	}
	if i := n - x.First(); x.w.has(n) && i > 0 && chance.IntN(2) == 0 {
		c, tail = x.w.configs[i], x.w.tails[i-1]
	}
	want := (&model{configs: slices.Clone(x.w.configs), tails: slices.Clone(x.w.tails)}).install(c, tail)
	x.wantInstall(t, c, tail, want)
}

func TestScriptsOfCalls(t *testing.T) { // P14.1, P14.2, P14.3, P14.4
	chance := rand.New(rand.NewPCG(14, 1))
	for range 60 {
		x := fresh(t, config(1+chance.IntN(api.MaxTerms), 1+chance.IntN(2), 3))
		for range 80 {
			x.atRandom(t, chance)
		}
	}
}

func TestStartNeverFalls(t *testing.T) { // P14.4
	chance := rand.New(rand.NewPCG(14, 2))
	x := fresh(t, config(1, 2, 3))
	for range 300 {
		x.atRandom(t, chance)
		for n := x.First(); n < x.Current(); n++ {
			a, _ := x.Start(n)
			b, err := x.Start(n + 1)
			if b < a || err != api.OK {
				t.Fatalf("Start(%d) = %d, Start(%d) = %d", n, a, n+1, b)
			}
		}
	}
}

func TestWhatWasInstalledStays(t *testing.T) { // P14.4
	chance := rand.New(rand.NewPCG(14, 3))
	x := fresh(t, config(1, 2, 3))
	var rows []Row
	for range 300 {
		x.atRandom(t, chance)
		for i, was := range rows {
			row, err := x.Row(x.First() + i)
			if err != api.OK || !row.Over || !term.Same(row.C, was.C) || !slices.EqualFunc(row.Tail, was.Tail, entry.Same) {
				t.Fatalf("Row(%d) was %v, is %v, %d", x.First()+i, was, row, err)
			}
		}
		for n := x.First() + len(rows); n < x.Current(); n++ {
			row, _ := x.Row(n)
			rows = append(rows, row)
		}
	}
	if len(rows) < api.MaxTerms-1 {
		t.Errorf("just %d terms were over", len(rows))
	}
}

func TestTheSameCallsTellTheSame(t *testing.T) { // R7
	one, two := rand.New(rand.NewPCG(14, 4)), rand.New(rand.NewPCG(14, 4))
	x, y := fresh(t, config(1, 2, 3)), fresh(t, config(1, 2, 3))
	for range 100 {
		x.atRandom(t, one)
		y.atRandom(t, two)
		pair{x.Register, y.w}.want(t)
	}
}

func TestNothingPanics(t *testing.T) { // R1
	numbers := append(wrongTerms(), 1, 2, 3, api.MaxTerms-1, api.MaxTerms)
	for _, first := range []int{1, 2, api.MaxTerms} {
		r, _ := New(config(first, 1, 3))
		for _, n := range numbers {
			for _, m := range numbers {
				r.Install(config(n, 1, 3), cuts(m))
				r.Install(term.Config{Term: n, Sequencers: []int{m}, Shards: [][]int{nil}}, []entry.Entry{{Number: m, Kind: n}})
				r.Install(config(n, 1, m), []entry.Entry{aCut(1), aTrim(m, n)})
			}
			r.Row(n)
			r.Start(n)
			r.Find(n)
		}
		r.First()
		r.Current()
	}
}
