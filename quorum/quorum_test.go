package quorum

import (
	"bytes"
	"math"
	"math/rand/v2"
	"slices"
	"testing"

	"carabiner/api"
	"carabiner/entry"
	"carabiner/message"
	"carabiner/replica"
	"carabiner/term"
)

const (
	in     = 3  // the term that most tests are of
	nobody = 10 // a node that is in no configuration of these tests
)

// all are nodes that may order: those of a test are the first ones of them.
var all = [api.MaxReplicas]int{4, 0, 15, 7, 2, 9, 1}

// config is one of so many sequencers, and of so many shards.
func config(sequencers, shards int) term.Config {
	c := term.Config{Term: in, Sequencers: slices.Clone(all[:sequencers])}
	for k := range shards {
		c.Shards = append(c.Shards, []int{5, 11 + k%3})
	}
	return c
}

// aCut is an entry of Kind 1, aTrim one of Kind 2.
func aCut(number int, v ...int) entry.Entry { return entry.Entry{Number: number, Kind: 1, Cut: v} }

func aTrim(number, tag, term, pos int) entry.Entry {
	return entry.Entry{Number: number, Kind: 2, Tag: tag, Upto: api.Seq{Term: term, Pos: pos}}
}

// chain is an ordinary one, of two shards.
func chain() []entry.Entry {
	return []entry.Entry{aCut(1, 1, 0), aTrim(2, 5, 1, 9), aCut(3, 3, 2), aCut(4, 3, 3), aTrim(5, 0, in, 0), aCut(6, 8, 200)}
}

// answer is what a replica tells the node Client.
func answer(kind, from, n int, is bool) message.Message {
	return message.Message{Kind: kind, From: from, To: api.Client, Term: in, Number: n, Is: is}
}

func ordered(from, n int) message.Message { return answer(message.Ordered, from, n, false) }

func sealed(from, n int) message.Message { return answer(message.Sealed, from, n, true) }

// changed is a configuration that is changed.
func changed(c term.Config, f func(c *term.Config)) term.Config {
	f(&c)
	return c
}

// wrongConfigs are some that are not right.
func wrongConfigs() []term.Config {
	var l []term.Config
	for _, n := range []int{math.MinInt, -1, 0, api.MaxTerms + 1, math.MaxInt} {
		l = append(l, changed(config(3, 2), func(c *term.Config) { c.Term = n }))
	}
	for _, s := range [][]int{nil, {0, 1}, {0, 1, 2, 3}, {0, 1, 2, 3, 4, 5}, {0, 1, 2, 3, 4, 5, 6, 7, 8}, {0, 1, 0}, {0, -1, 2}, {0, 1, api.MaxNodes}} {
		l = append(l, changed(config(3, 2), func(c *term.Config) { c.Sequencers = s }))
	}
	for _, s := range [][][]int{nil, {{}}, {{3}, nil}, {{3, 3}}, {{3, 4, 5, 6}}, {{-1}}, {{3, api.MaxNodes}}, {{1}, {2}, {3}, {4}, {5}, {6}, {7}, {8}, {9}}} {
		l = append(l, changed(config(3, 2), func(c *term.Config) { c.Shards = s }))
	}
	return append(l, term.Config{})
}

// model is what a primary should have.
type model struct {
	c       term.Config
	entries []entry.Entry
	known   []int // of each sequencer
	sealed  bool
}

func newModel(c term.Config) *model { return &model{c: c, known: make([]int, len(c.Sequencers))} }

// last is the last cut, without one zeros.
func (w *model) last() []int {
	for _, e := range slices.Backward(w.entries) {
		if e.Kind == 1 {
			return e.Cut
		}
	}
	return make([]int, len(w.c.Shards))
}

// make is what it should tell of a new entry, if that is no wrong one.
func (w *model) make(e entry.Entry, wrong bool) (entry.Entry, api.Errno) {
	switch {
	case w.sealed:
		return entry.Entry{}, api.ErrQuorumSealed
	case wrong:
		return entry.Entry{}, api.ErrArg
	case len(w.entries) == 512:
		return entry.Entry{}, api.ErrQuorumFull
	}
	e.Number = len(w.entries) + 1
	e.Cut = slices.Clone(e.Cut)
	w.entries = append(w.entries, e)
	return e, api.OK
}

// cut and trim are what it should tell of these.
func (w *model) cut(v []int) (entry.Entry, api.Errno) {
	last := w.last()
	wrong := len(v) != len(last) || slices.Equal(v, last)
	for k := range min(len(v), len(last)) {
		wrong = wrong || v[k] < last[k] || v[k] > 1<<40
	}
	return w.make(entry.Entry{Kind: 1, Cut: v}, wrong)
}

func (w *model) trim(tag int, upto api.Seq) (entry.Entry, api.Errno) {
	wrong := tag < 0 || tag > 1<<30 || upto.Term < 1 || upto.Term > w.c.Term || upto.Pos < 0 || upto.Pos > 1<<40
	return w.make(entry.Entry{Kind: 2, Tag: tag, Upto: upto}, wrong)
}

// heard is whether it should hear that, of a right message of its term.
func (w *model) heard(m message.Message) bool {
	i := slices.Index(w.c.Sequencers, m.From)
	if i < 0 || m.Number > len(w.entries) || m.Kind != message.Ordered && m.Kind != message.Sealed {
		return false
	}
	w.known[i] = max(w.known[i], m.Number)
	w.sealed = w.sealed || m.Is
	return true
}

// committed is the greatest number that more than half of the sequencers have.
func (w *model) committed() int {
	for n := len(w.entries); ; n-- {
		have := 0
		for _, known := range w.known {
			if known >= n {
				have++
			}
		}
		if 2*have > len(w.known) {
			return n
		}
	}
}

// pair is a primary, and what it should have.
type pair struct {
	*Primary
	w *model
}

// fresh is one without entries.
func fresh(t *testing.T, c term.Config) pair {
	t.Helper()
	p, err := New(c)
	if err != api.OK || p == nil {
		t.Fatalf("New(%v) = %v, %d", c, p, err)
	}
	x := pair{p, newModel(c)}
	x.want(t)
	return x
}

// ordinary has the ordinary chain, of three sequencers.
func ordinary(t *testing.T) pair {
	t.Helper()
	x := fresh(t, config(3, 2))
	for _, e := range chain() {
		x.wantMade(t, e)
	}
	return x
}

// full has as many entries as may be.
func full(t *testing.T, c term.Config) pair {
	t.Helper()
	x := fresh(t, c)
	for x.Len() < 512 {
		if n := x.Len() + 1; n%3 == 0 {
			x.wantMade(t, aTrim(n, n, 1, n))
		} else {
			x.wantMade(t, aCut(n, x.w.last()[0]+1))
		}
	}
	return x
}

// want fails, if a primary does not tell that it has just that.
func (x pair) want(t *testing.T) {
	t.Helper()
	w := x.w
	if x.Len() != len(w.entries) || x.Sealed() != w.sealed || x.Committed() != w.committed() {
		t.Fatalf("Len = %d, Sealed = %v, Committed = %d, want %d, %v, %d", x.Len(), x.Sealed(), x.Committed(), len(w.entries), w.sealed, w.committed())
	}
	for _, node := range []int{math.MinInt, -1, 0, 1, 2, 3, 4, 5, 6, 7, 8, 9, 10, 11, 12, 13, 14, 15, 16, math.MaxInt} {
		var want []entry.Entry
		if i := slices.Index(w.c.Sequencers, node); i >= 0 {
			want = w.entries[w.known[i]:]
		}
		if l := x.Missing(node); !slices.EqualFunc(l, want, entry.Same) {
			t.Fatalf("Missing(%d) = %v, want %v", node, l, want)
		}
	}
}

// cut and trim ask for an entry, and fail, if that is not told, or the primary has something else behind it.
func (x pair) cut(t *testing.T, v ...int) api.Errno {
	t.Helper()
	e, err := x.Cut(v)
	want, wantErr := x.w.cut(v)
	if !entry.Same(e, want) || err != wantErr {
		t.Fatalf("Cut(%v) = %v, %d, want %v, %d", v, e, err, want, wantErr)
	}
	x.want(t)
	return err
}

func (x pair) trim(t *testing.T, tag, term, pos int) api.Errno {
	t.Helper()
	upto := api.Seq{Term: term, Pos: pos}
	e, err := x.Trim(tag, upto)
	want, wantErr := x.w.trim(tag, upto)
	if !entry.Same(e, want) || err != wantErr {
		t.Fatalf("Trim(%d, %v) = %v, %d, want %v, %d", tag, upto, e, err, want, wantErr)
	}
	x.want(t)
	return err
}

// wantMade fails, if just e is not made next.
func (x pair) wantMade(t *testing.T, e entry.Entry) {
	t.Helper()
	err := api.OK
	if e.Kind == 1 {
		err = x.cut(t, e.Cut...)
	} else {
		err = x.trim(t, e.Tag, e.Upto.Term, e.Upto.Pos)
	}
	if err != api.OK || x.Len() != e.Number || !entry.Same(x.w.entries[e.Number-1], e) {
		t.Fatalf("%v is not made: %d", e, err)
	}
}

// wantError fails, if what was told is not that error.
func wantError(t *testing.T, err, want api.Errno) {
	t.Helper()
	if err != want {
		t.Fatalf("told %d, want %d", err, want)
	}
}

// wantHeard fails, if a message is not heard, or not refused, or changes anything else.
func (x pair) wantHeard(t *testing.T, m message.Message, want bool) {
	t.Helper()
	if want != x.w.heard(m) {
		t.Fatalf("%v: this test is wrong", m)
	}
	if is := x.Heard(m); is != want {
		t.Fatalf("Heard(%v) = %v, want %v", m, is, want)
	}
	x.want(t)
}

// wantIgnored fails, if a message, of which the model knows nothing, is not refused, or changes anything.
func (x pair) wantIgnored(t *testing.T, m message.Message) {
	t.Helper()
	if x.Heard(m) {
		t.Fatalf("Heard(%v) = true", m)
	}
	x.want(t)
}

func TestExamplesOfTheChapter(t *testing.T) { // P12.1, P12.2
	c := term.Config{Term: in, Sequencers: []int{0, 1, 2}, Shards: [][]int{{3}, {4}}}
	p, err := New(c)
	if err != api.OK {
		t.Fatal(err)
	}
	if e, err := p.Cut([]int{1, 0}); err != api.OK || !entry.Same(e, aCut(1, 1, 0)) {
		t.Fatalf("Cut = %v, %d", e, err)
	}
	if e, err := p.Cut([]int{1, 0}); err != api.ErrArg || !entry.Same(e, entry.Entry{}) {
		t.Fatalf("Cut = %v, %d", e, err)
	}
	if !p.Heard(ordered(0, 1)) || p.Committed() != 0 || !p.Heard(ordered(1, 1)) || p.Committed() != 1 {
		t.Fatalf("Committed = %d", p.Committed())
	}
	if !p.Heard(sealed(2, 1)) {
		t.Fatal("a Sealed is refused")
	}
	if e, err := p.Cut([]int{2, 0}); err != api.ErrQuorumSealed || !entry.Same(e, entry.Entry{}) {
		t.Fatalf("Cut = %v, %d", e, err)
	}
}

func TestNewOfEachRightConfiguration(t *testing.T) { // P12.1, P12.3
	for n := 1; n <= api.MaxReplicas; n += 2 {
		for shards := 1; shards <= api.MaxShards; shards++ {
			for _, number := range []int{1, 2, api.MaxTerms} {
				c := changed(config(n, shards), func(c *term.Config) { c.Term = number })
				x := fresh(t, c)
				v := make([]int, shards)
				v[shards-1] = 1
				wantError(t, x.cut(t, v...), api.OK)
				wantError(t, x.trim(t, 0, number, 0), api.OK)
				s, err := NewSealer(c)
				if err != api.OK || s == nil || s.Done() {
					t.Fatalf("NewSealer(%v) = %v, %d", c, s, err)
				}
			}
		}
	}
}

func TestNewOfAConfigurationThatIsNotRight(t *testing.T) { // P12.1, P12.3
	for _, c := range wrongConfigs() {
		if p, err := New(c); p != nil || err != api.ErrArg {
			t.Errorf("New(%v) = %v, %d", c, p, err)
		}
		if s, err := NewSealer(c); s != nil || err != api.ErrArg {
			t.Errorf("NewSealer(%v) = %v, %d", c, s, err)
		}
	}
}

func TestCutsThatFollowOneAnother(t *testing.T) { // P12.1
	x := fresh(t, config(3, 2))
	for i, v := range [][]int{{0, 1}, {1, 1}, {1, 2}, {5, 900}, {1 << 40, 900}, {1 << 40, 1 << 40}} {
		x.wantMade(t, aCut(i+1, v...))
	}
	wantError(t, x.cut(t, 1<<40, 1<<40), api.ErrArg) // there is none behind it
	x.wantMade(t, aTrim(7, 1, 1, 1))
	ordinary(t)
}

func TestCutThatIsRefused(t *testing.T) { // P12.1
	wrong := [][]int{
		nil, {}, {9}, {9, 9, 9}, {9, 9, 9, 9, 9, 9, 9, 9}, {9, 9, 9, 9, 9, 9, 9, 9, 9}, // of too few, or too many numbers
		{-1, 9}, {9, -1}, {math.MinInt, 9}, {9, 1<<40 + 1}, {1<<40 + 1, 9}, {9, math.MaxInt}, // no vectors
	}
	x := fresh(t, config(3, 2))
	for _, v := range append(wrong, []int{0, 0}) { // nor the zero vector, which is as none
		wantError(t, x.cut(t, v...), api.ErrArg)
	}
	x.wantMade(t, aTrim(1, 0, 1, 0))
	wantError(t, x.cut(t, 0, 0), api.ErrArg) // a trim is no cut
	x.wantMade(t, aCut(2, 2, 3))
	for range 2 { // behind a cut, and behind a trim behind that
		for _, v := range append(wrong, []int{2, 3}, []int{0, 0}, []int{1, 3}, []int{2, 2}, []int{1, 9}, []int{9, 2}) {
			wantError(t, x.cut(t, v...), api.ErrArg)
		}
		x.wantMade(t, aTrim(x.Len()+1, 0, 1, 0))
	}
	x.wantMade(t, aCut(5, 2, 4))
	wantError(t, x.cut(t, 2, 3), api.ErrArg)
}

func TestTrimOfEachTagAndPlace(t *testing.T) { // P12.1
	numbers := []int{math.MinInt, -1, 0, 1, in - 1, in, in + 1, api.MaxTerms, api.MaxTerms + 1, 1<<30 - 1, 1 << 30, 1<<30 + 1, 1 << 40, 1<<40 + 1, math.MaxInt}
	x := fresh(t, config(1, 1))
	made := 0
	for _, tag := range numbers {
		for _, term := range numbers {
			for _, pos := range numbers {
				right := tag >= 0 && tag <= 1<<30 && term >= 1 && term <= in && pos >= 0 && pos <= 1<<40
				want := api.ErrArg
				if right && made < 512 {
					made, want = made+1, api.OK
				} else if right {
					want = api.ErrQuorumFull
				}
				wantError(t, x.trim(t, tag, term, pos), want)
			}
		}
	}
}

func TestTrimOfATermAboveThatOfTheConfiguration(t *testing.T) { // P12.1
	for _, number := range []int{1, 2, api.MaxTerms - 1, api.MaxTerms} {
		x := fresh(t, changed(config(3, 2), func(c *term.Config) { c.Term = number }))
		wantError(t, x.trim(t, 4, number+1, 0), api.ErrArg)
		x.wantMade(t, aTrim(1, 4, number, 0))
		x.wantMade(t, aTrim(2, 4, number, 0)) // the same once more is one more
		wantError(t, x.trim(t, 4, 0, 0), api.ErrArg)
	}
}

func TestCutAndTrimBehindASeal(t *testing.T) { // P12.1, P12.2
	for _, m := range []message.Message{sealed(0, 6), sealed(4, 0), answer(message.Ordered, 15, 3, true)} {
		x := ordinary(t)
		x.wantHeard(t, m, true)
		for range 2 {
			wantError(t, x.cut(t, 9, 200), api.ErrQuorumSealed)
			wantError(t, x.cut(t, 8, 200), api.ErrQuorumSealed) // ahead of ErrArg
			wantError(t, x.cut(t), api.ErrQuorumSealed)
			wantError(t, x.trim(t, 0, 1, 0), api.ErrQuorumSealed)
			wantError(t, x.trim(t, -1, in+1, -1), api.ErrQuorumSealed)
			x.wantHeard(t, ordered(m.From, 6), true) // it stays sealed
		}
	}
}

func TestCutAndTrimOfAFullOne(t *testing.T) { // P12.1
	x := full(t, config(3, 1))
	for range 2 {
		wantError(t, x.cut(t, 1000), api.ErrQuorumFull)
		wantError(t, x.trim(t, 0, 1, 0), api.ErrQuorumFull)
		wantError(t, x.cut(t, x.w.last()...), api.ErrArg) // ahead of ErrQuorumFull
		wantError(t, x.cut(t, 1000, 1000), api.ErrArg)
		wantError(t, x.trim(t, 0, in+1, 0), api.ErrArg)
		wantError(t, x.trim(t, -1, 1, 0), api.ErrArg)
	}
	x.wantHeard(t, ordered(4, 513), false)
	x.wantHeard(t, ordered(4, 512), true)
	x.wantHeard(t, ordered(0, 512), true)
	x.wantHeard(t, sealed(15, 511), true)
	wantError(t, x.cut(t, 1000), api.ErrQuorumSealed)
	wantError(t, x.cut(t, 1), api.ErrQuorumSealed)
	wantError(t, x.trim(t, 0, 1, 0), api.ErrQuorumSealed)
	if x.Committed() != 512 {
		t.Errorf("Committed = %d", x.Committed())
	}
}

func TestHeardOfEachNumber(t *testing.T) { // P12.2
	for _, kind := range []int{message.Ordered, message.Sealed} {
		for _, is := range []bool{false, true} {
			for n := range len(chain()) + 3 {
				x := ordinary(t)
				x.wantHeard(t, answer(kind, 0, n, is), n <= len(chain()))
				if x.Sealed() != (is && n <= len(chain())) { // with what is refused the seal is not heard, either
					t.Fatalf("Sealed = %v behind %d, %v, %d", x.Sealed(), kind, is, n)
				}
				for m := range len(chain()) + 3 { // fewer and more than that
					x.wantHeard(t, answer(kind, 0, m, false), m <= len(chain()))
				}
			}
			for _, n := range []int{1 << 40, 1<<40 + 1, math.MaxInt} {
				ordinary(t).wantIgnored(t, answer(kind, 0, n, is))
			}
			for _, n := range []int{-1, math.MinInt} {
				ordinary(t).wantIgnored(t, answer(kind, 0, n, is))
			}
			x := fresh(t, config(3, 2)) // that has no entries
			x.wantHeard(t, answer(kind, 0, 1, is), false)
			x.wantHeard(t, answer(kind, 0, 0, is), true)
		}
	}
}

func TestHeardFromEachNode(t *testing.T) { // P12.2
	for n := 1; n <= api.MaxReplicas; n += 2 {
		for node := range api.MaxNodes {
			for _, m := range []message.Message{ordered(node, 1), sealed(node, 1)} {
				for _, to := range []int{0, 4, api.Client} { // whoever it was told
					m.To = to
					x := fresh(t, config(n, 2))
					x.wantMade(t, aCut(1, 1, 1))
					x.wantHeard(t, m, slices.Contains(all[:n], node))
				}
			}
		}
	}
}

func TestHeardOfWhatIsNoAnswer(t *testing.T) { // P12.2
	x := ordinary(t)
	record := api.Record{Id: api.Id{Client: 1, Number: 1}}
	for _, m := range []message.Message{
		{}, {Kind: message.Keep, From: 4, Term: in, Record: record}, {Kind: message.Kept, From: 4, Term: in, Number: 3},
		{Kind: message.Order, From: 4, Term: in, Entry: aCut(1, 1)}, {Kind: message.Seal, From: 4, Term: in},
		{Kind: message.Prepare, From: 4, Term: in, Ballot: 3}, {Kind: message.Promise, From: 4, Term: in, Ballot: 3},
		{Kind: message.Accept, From: 4, Term: in, Ballot: 3, Config: config(3, 2)},
		{Kind: message.Accepted, From: 4, Term: in, Ballot: 3, Is: true},
	} {
		if m.Kind > 0 && !message.Right(m) {
			t.Fatalf("%v: this test is wrong", m)
		}
		x.wantIgnored(t, m)
	}
}

func TestHeardOfWhatIsNotRight(t *testing.T) { // P12.2
	x := ordinary(t)
	for _, right := range []message.Message{ordered(4, 3), answer(message.Ordered, 4, 3, true), sealed(4, 3)} {
		for _, wrong := range []func(m *message.Message){
			func(m *message.Message) { m.Kind = 0 }, func(m *message.Message) { m.Kind = 11 }, func(m *message.Message) { m.Kind = -4 },
			func(m *message.Message) { m.From = -1 }, func(m *message.Message) { m.From = 16 }, func(m *message.Message) { m.From = nobody },
			func(m *message.Message) { m.To = -1 }, func(m *message.Message) { m.To = 16 },
			func(m *message.Message) { m.Term = in - 1 }, func(m *message.Message) { m.Term = in + 1 },
			func(m *message.Message) { m.Term = 0 }, func(m *message.Message) { m.Term = 65 },
			func(m *message.Message) { m.Number = 7 }, func(m *message.Message) { m.Number = -1 },
			func(m *message.Message) { m.Shard = 1 }, func(m *message.Message) { m.Ballot = 1 }, func(m *message.Message) { m.Old = 1 },
			func(m *message.Message) { m.Record.Data = "a" }, func(m *message.Message) { m.Entry = aCut(1, 1) },
			func(m *message.Message) { m.Config = config(3, 2) },
		} {
			m := right
			wrong(&m)
			x.wantIgnored(t, m)
		}
	}
	x.wantHeard(t, ordered(4, 3), true) // nothing of all that is in its way
}

func TestCommittedBehindEachHeard(t *testing.T) { // P12.2
	next := rand.New(rand.NewPCG(12, 2))
	for n := 1; n <= api.MaxReplicas; n += 2 {
		for range 30 {
			x, last := fresh(t, config(n, 1)), 0
			for i := range 6 {
				x.wantMade(t, aCut(i+1, i+1))
			}
			for range 40 { // of an odd and an even number of those that were heard
				x.wantHeard(t, ordered(all[next.IntN(n)], next.IntN(7)), true)
				if x.Committed() < last {
					t.Fatalf("Committed fell from %d to %d", last, x.Committed())
				}
				last = x.Committed()
			}
		}
	}
}

func TestCommittedOfOneAlone(t *testing.T) { // P12.2
	x := fresh(t, config(1, 2))
	for i, e := range chain() {
		x.wantMade(t, e)
		for _, step := range []struct{ n, committed int }{{0, i}, {i + 1, i + 1}, {i, i + 1}} {
			x.wantHeard(t, ordered(all[0], step.n), true)
			if x.Committed() != step.committed {
				t.Fatalf("Committed = %d, want %d", x.Committed(), step.committed)
			}
		}
	}
}

func TestCommittedOfSeven(t *testing.T) { // P12.2
	x := fresh(t, config(7, 2))
	for _, e := range chain() {
		x.wantMade(t, e)
	}
	for i, step := range []struct{ n, committed int }{{6, 0}, {5, 0}, {4, 0}, {3, 3}, {2, 3}, {6, 4}, {6, 5}} {
		x.wantHeard(t, ordered(all[i], step.n), true)
		if x.Committed() != step.committed {
			t.Fatalf("Committed = %d, want %d", x.Committed(), step.committed)
		}
	}
	x.wantMade(t, aCut(7, 9, 200))
	if x.Committed() != 5 { // what nobody has is not committed
		t.Fatalf("Committed = %d", x.Committed())
	}
}

func TestMissing(t *testing.T) { // P12.2
	x := ordinary(t)
	wantMissing := func(node int, want []entry.Entry) {
		t.Helper()
		if l := x.Missing(node); !slices.EqualFunc(l, want, entry.Same) {
			t.Fatalf("Missing(%d) = %v, want %v", node, l, want)
		}
	}
	wantMissing(4, chain()) // it was never heard of
	for n := range len(chain()) + 1 {
		x.wantHeard(t, ordered(4, n), true)
		wantMissing(4, chain()[n:])
		wantMissing(0, chain())
		wantMissing(15, chain())
	}
	x.wantHeard(t, ordered(4, 1), true)
	wantMissing(4, nil)
	x.wantMade(t, aTrim(7, 1, 1, 1))
	wantMissing(4, []entry.Entry{aTrim(7, 1, 1, 1)})
	for _, node := range []int{math.MinInt, -1, 5, 7, nobody, 16, math.MaxInt} { // those that keep, too
		wantMissing(node, nil)
	}
}

// sealer is one that heard nothing.
func sealer(t *testing.T, sequencers int) *Sealer {
	t.Helper()
	s, err := NewSealer(config(sequencers, 2))
	if err != api.OK || s == nil {
		t.Fatalf("NewSealer = %v, %d", s, err)
	}
	wantTail(t, s, nil, false)
	return s
}

// wantTail fails, if a sealer is not done, or is, or does not tell that tail.
func wantTail(t *testing.T, s *Sealer, want []entry.Entry, done bool) {
	t.Helper()
	if l, is := s.Tail(); is != done || s.Done() != done || !slices.EqualFunc(l, want, entry.Same) {
		t.Fatalf("Tail = %v, %v, Done = %v, want %v, %v", l, is, s.Done(), want, done)
	}
}

// wantTold fails, if what a node had is not heard, or not refused.
func wantTold(t *testing.T, s *Sealer, node int, l []entry.Entry, want bool) {
	t.Helper()
	if is := s.Heard(node, l); is != want {
		t.Fatalf("Heard(%d, %v) = %v, want %v", node, l, is, want)
	}
}

func TestTailAheadOfAtAndBehindAMajority(t *testing.T) { // P12.3
	for n := 1; n <= api.MaxReplicas; n += 2 {
		for longest := range n {
			s := sealer(t, n)
			var want []entry.Entry
			for i, node := range all[:n] {
				l := chain()[:i%3]
				if i == longest {
					l = chain()
				}
				wantTold(t, s, node, l, true)
				if len(l) > len(want) {
					want = l
				}
				if done := 2*(i+1) > n; done {
					wantTail(t, s, want, true)
				} else {
					wantTail(t, s, nil, false)
				}
			}
		}
	}
}

func TestTailOfNoEntries(t *testing.T) { // P12.3
	s := sealer(t, 3)
	wantTold(t, s, 0, nil, true)
	wantTail(t, s, nil, false)
	wantTold(t, s, 15, []entry.Entry{}, true)
	wantTail(t, s, nil, true)
	wantTold(t, s, 4, chain(), true) // one more than is needed
	wantTail(t, s, chain(), true)
}

func TestLongerAndShorterChains(t *testing.T) { // P12.3
	for first := range len(chain()) + 1 {
		for second := range len(chain()) + 1 {
			s := sealer(t, 3)
			wantTold(t, s, 15, chain()[:first], true)
			wantTold(t, s, 4, chain()[:second], true)
			wantTail(t, s, chain()[:max(first, second)], true)
		}
	}
}

func TestChainsThatAreUnlike(t *testing.T) { // P12.3
	others := []entry.Entry{aCut(1, 1, 1), aTrim(2, 5, 1, 8), aCut(3, 2, 2), aTrim(4, 5, 1, 9), aCut(5, 3, 3), aCut(6, 8, 201)}
	for i := range chain() {
		other := chain()
		other[i] = others[i]
		if entry.Chain(other) != len(other) {
			t.Fatalf("%v: this test is wrong", other)
		}
		for n := i + 1; n <= len(chain()); n++ { // in which both have it
			for m := i + 1; m <= len(chain()); m++ {
				s := sealer(t, 3)
				wantTold(t, s, 15, chain()[:n], true)
				wantTold(t, s, 4, other[:m], false)
				wantTail(t, s, nil, false)
				wantTold(t, s, 4, other[:i], true) // ahead of it they agree
				wantTail(t, s, chain()[:n], true)
				wantTold(t, s, 0, other[:m], false)
				wantTold(t, s, 0, chain(), true)
				wantTail(t, s, chain(), true)
			}
		}
		s := sealer(t, 3) // what was shorter than that is no reason
		wantTold(t, s, 15, chain()[:i], true)
		wantTold(t, s, 4, other, true)
		wantTold(t, s, 0, chain(), false) // though it and the first one agree
		wantTail(t, s, other, true)
	}
}

func TestHeardOfANodeOnceMore(t *testing.T) { // P12.3
	s := sealer(t, 3)
	wantTold(t, s, 4, chain()[:2], true)
	for _, l := range [][]entry.Entry{nil, chain()[:1], chain()[:2], chain()} {
		wantTold(t, s, 4, l, false)
		wantTail(t, s, nil, false)
	}
	wantTold(t, s, 0, chain()[:1], true)
	for _, node := range []int{0, 4} {
		wantTold(t, s, node, chain(), false)
		wantTail(t, s, chain()[:2], true)
	}
	none := sealer(t, 3) // that had no entries
	wantTold(t, none, 4, nil, true)
	wantTold(t, none, 4, nil, false)
	wantTold(t, none, 4, chain(), false)
	wantTail(t, none, nil, false)
}

func TestHeardOfANodeThatIsNone(t *testing.T) { // P12.3
	for n := 1; n <= api.MaxReplicas; n += 2 {
		s := sealer(t, n)
		for _, node := range []int{math.MinInt, -1, 3, 5, 6, 8, nobody, 11, 12, 13, 14, 16, 1 << 40, math.MaxInt} {
			wantTold(t, s, node, nil, false)
			wantTold(t, s, node, chain(), false)
			wantTail(t, s, nil, false)
		}
		for _, node := range all[n:] {
			wantTold(t, s, node, chain(), false)
		}
		for _, node := range all[:n/2+1] {
			wantTail(t, s, nil, false)
			wantTold(t, s, node, chain()[:1], true)
		}
		wantTail(t, s, chain()[:1], true)
	}
}

func TestHeardOfWhatIsNoChain(t *testing.T) { // P12.3
	s := sealer(t, 3)
	wantTold(t, s, 4, chain()[:1], true)
	for _, l := range [][]entry.Entry{
		{{}}, chain()[1:], {aCut(0, 1, 0)}, {aCut(2, 1, 0)}, {aCut(1, 1, 0), aCut(1, 1, 0)}, {aCut(1, 1, 0), aCut(3, 1, 0)},
		{aCut(1, 1, 0), aCut(2, 0, 9)}, {aCut(1, 1, 0), aCut(2, 1)}, {aCut(1, 1, 0), aCut(2, 1, 0, 0)}, {aCut(1, 1, 0), aCut(2, -1, 0)},
		{aCut(1, 1, 0), aTrim(2, -1, 1, 0)}, {aCut(1, 1, 0), aTrim(2, 0, 0, 0)}, {aCut(1)}, {aCut(1, 1<<40+1, 0)},
		append(chain(), aCut(8, 9, 200)), append(chain(), aCut(7, 7, 200)), append(chain(), entry.Entry{}),
	} {
		wantTold(t, s, 15, l, false)
		wantTail(t, s, nil, false)
	}
	wantTold(t, s, 15, chain(), true)
	wantTail(t, s, chain(), true)
}

// orders are all in which these can stand.
func orders(l []int) [][]int {
	if len(l) == 0 {
		return [][]int{nil}
	}
	var out [][]int
	for i, n := range l {
		for _, rest := range orders(slices.Delete(slices.Clone(l), i, i+1)) {
			out = append(out, append([]int{n}, rest...))
		}
	}
	return out
}

func TestTailInWhateverOrder(t *testing.T) { // P12.3
	has := map[int]int{4: 2, 0: 6, 15: 0, 7: 2, 2: 5}
	for _, order := range orders(all[:5]) {
		s, longest := sealer(t, 5), 0
		for i, node := range order {
			wantTold(t, s, node, chain()[:has[node]], true)
			longest = max(longest, has[node])
			if i < 2 {
				wantTail(t, s, nil, false)
			} else {
				wantTail(t, s, chain()[:longest], true)
			}
		}
		wantTail(t, s, chain(), true)
	}
}

// world is a metalog: its primary, its replicas, and what is on its way.
type world struct {
	pair
	t        *testing.T
	next     *rand.Rand
	replicas map[int]*replica.Replica
	wire     []message.Message
	most     int // so many entries were ever committed
}

func newWorld(t *testing.T, next *rand.Rand) *world {
	n := 1 + 2*next.IntN(4)
	w := &world{pair: fresh(t, config(n, 2)), t: t, next: next, replicas: map[int]*replica.Replica{}}
	for _, node := range w.w.c.Sequencers {
		r, err := replica.New(node, w.w.c)
		if err != api.OK {
			t.Fatalf("replica.New = %d", err)
		}
		w.replicas[node] = r
	}
	return w
}

// any is one of the sequencers.
func (w *world) any() int { return w.w.c.Sequencers[w.next.IntN(len(w.w.c.Sequencers))] }

// send puts a message on its way, or loses it.
func (w *world) send(m message.Message) {
	if w.next.IntN(6) > 0 {
		w.wire = append(w.wire, m)
	}
}

// order sends an entry to a replica.
func (w *world) order(node int, e entry.Entry) {
	w.send(message.Message{Kind: message.Order, From: api.Client, To: node, Term: in, Entry: e})
}

// made sends a new entry to all.
func (w *world) made(e entry.Entry, err api.Errno) {
	if err == api.OK {
		w.w.entries = append(w.w.entries, e)
		for _, node := range w.w.c.Sequencers {
			w.order(node, e)
		}
	}
}

// deliver lets one of the messages come, maybe once more than it was sent.
func (w *world) deliver() {
	if len(w.wire) == 0 {
		return
	}
	i := w.next.IntN(min(len(w.wire), 4))
	m := w.wire[i]
	if w.next.IntN(5) > 0 {
		w.wire = slices.Delete(w.wire, i, i+1)
	}
	if m.Kind == message.Ordered || m.Kind == message.Sealed {
		w.wantHeard(w.t, m, true)
	} else if told, err := w.replicas[m.To].Take(m); err == api.OK {
		w.send(told)
	}
	if w.Committed() < w.most {
		w.t.Fatalf("Committed fell from %d to %d", w.most, w.Committed())
	}
	w.most = w.Committed()
}

// step does something.
func (w *world) step() {
	switch w.next.IntN(40) {
	case 0, 1, 2:
		v := w.w.last()
		w.made(w.Cut([]int{v[0] + w.next.IntN(3), v[1] + w.next.IntN(3)}))
	case 3:
		w.made(w.Trim(w.next.IntN(9), api.Seq{Term: 1, Pos: w.next.IntN(9)}))
	case 4, 5, 6:
		node := w.any()
		for _, e := range w.Missing(node) {
			w.order(node, e)
		}
	case 7:
		w.replicas[w.any()].Crash(w.next.IntN(60) - 10)
	case 8:
		w.replicas[w.any()].Store().Off(w.next.IntN(2) == 0)
	default:
		w.deliver()
	}
}

// seal asks some of the replicas, of which some may not hear it.
func (w *world) seal() {
	for _, node := range w.w.c.Sequencers {
		w.send(message.Message{Kind: message.Seal, From: api.Client, To: node, Term: in})
	}
}

// tails are those that each majority of the replicas that are sealed tells.
func (w *world) tails() [][]entry.Entry {
	w.t.Helper()
	n, tails := len(w.w.c.Sequencers), [][]entry.Entry(nil)
	for which := range 1 << n {
		s, err := NewSealer(w.w.c)
		if err != api.OK {
			w.t.Fatalf("NewSealer = %d", err)
		}
		for i, node := range w.w.c.Sequencers {
			if r := w.replicas[node]; which>>i&1 == 1 && r.Sealed() {
				wantTold(w.t, s, node, r.Entries(), true)
			}
		}
		if tail, is := s.Tail(); is {
			tails = append(tails, tail)
		}
	}
	return tails
}

func TestWhateverMajorityWasSealed(t *testing.T) { // P12.4
	next := rand.New(rand.NewPCG(12, 4))
	asked, some := 0, 0
	for range 400 {
		w := newWorld(t, next)
		for range next.IntN(200) {
			w.step()
		}
		var tails [][]entry.Entry
		for range 1 + next.IntN(3) { // some may be sealed far behind others
			w.seal()
			for range next.IntN(60) {
				w.step()
			}
			tails = append(tails, w.tails()...)
		}
		for range 200 { // what is late comes still: what is committed then counts too
			w.step()
			w.deliver()
		}
		tails = append(tails, w.tails()...)
		for _, tail := range tails {
			if len(tail) < w.most || !slices.EqualFunc(tail, w.w.entries[:min(len(tail), len(w.w.entries))], entry.Same) {
				t.Fatalf("the tail %v has not the %d that were committed of %v", tail, w.most, w.w.entries)
			}
			asked++
			some += min(w.most, 1)
		}
	}
	if asked < 1000 || some < 500 {
		t.Errorf("%d tails, %d of them with something committed: this test is too weak", asked, some)
	}
}

// anyNumbers are mostly those of the model's last cut, or some more.
func anyNumbers(next *rand.Rand, w *model) []int {
	v := slices.Clone(w.last())
	for k := range v {
		v[k] += next.IntN(3) * next.IntN(2)
	}
	switch next.IntN(12) {
	case 0:
		v[next.IntN(len(v))]--
	case 1:
		v = append(v, 0)
	case 2:
		v = v[1:]
	}
	return v
}

func TestScripts(t *testing.T) { // P12.1, P12.2
	next := rand.New(rand.NewPCG(12, 1))
	for range 200 {
		x := fresh(t, config(1+2*next.IntN(4), 1+next.IntN(8)))
		for range 80 {
			switch next.IntN(4) {
			case 0:
				x.cut(t, anyNumbers(next, x.w)...)
			case 1:
				x.trim(t, next.IntN(9)-1, next.IntN(in+2), next.IntN(9)-1)
			default:
				node, is := all[next.IntN(7)], next.IntN(60) == 0
				m := answer(message.Ordered+2*next.IntN(2), node, next.IntN(x.Len()+2), is)
				x.wantHeard(t, m, slices.Contains(x.w.c.Sequencers, node) && m.Number <= x.Len())
			}
		}
	}
}

func TestWhateverComesNothingPanics(t *testing.T) { // R1
	next := rand.New(rand.NewPCG(12, 9))
	numbers := []int{math.MinInt, -1, 0, 1, 2, 3, 4, 5, 8, 15, 16, 64, 65, 1 << 40, 1<<40 + 1, math.MaxInt}
	some := func() int { return numbers[next.IntN(len(numbers))] }
	row := func() []int {
		var l []int
		for range next.IntN(4) {
			l = append(l, some())
		}
		return l
	}
	one := func() entry.Entry {
		return entry.Entry{Number: some(), Kind: next.IntN(4), Cut: row(), Tag: some() * next.IntN(2), Upto: api.Seq{Term: some(), Pos: some()}}
	}
	x, s := fresh(t, config(3, 2)), sealer(t, 7)
	for range 20000 {
		c := term.Config{Term: some(), Sequencers: row(), Shards: [][]int{row(), row()}[:next.IntN(3)]}
		if p, err := New(c); (p == nil) != (err == api.ErrArg) {
			t.Fatalf("New = %v, %d", p, err)
		}
		if s, err := NewSealer(c); (s == nil) != (err == api.ErrArg) {
			t.Fatalf("NewSealer = %v, %d", s, err)
		}
		x.cut(t, row()...)
		x.trim(t, some(), some(), some())
		m := message.Message{Kind: next.IntN(12), From: some(), To: some(), Term: some(), Shard: some(), Number: some(), Ballot: some(), Entry: one(), Config: c}
		x.wantIgnored(t, m)
		x.Missing(some())
		if l := []entry.Entry{one(), one()}[:1+next.IntN(2)]; s.Heard(some(), l) && entry.Chain(l) != len(l) {
			t.Fatalf("%v is heard", l)
		}
		if next.IntN(50) == 0 {
			x, s = fresh(t, config(3, 2)), sealer(t, 7)
		}
	}
}

func TestTheSameCallsTellTheSame(t *testing.T) { // R7
	told := func() []byte {
		next, b := rand.New(rand.NewPCG(7, 7)), []byte(nil)
		x, s := fresh(t, config(7, 3)), sealer(t, 7)
		for range 300 {
			e, err := x.Cut(anyNumbers(next, x.w))
			x.w.cut(e.Cut)
			m := ordered(all[next.IntN(7)], next.IntN(x.Len()+1))
			b = append(b, byte(err), byte(len(e.Cut)), byte(x.Committed()))
			if x.Heard(m) && x.w.heard(m) && s.Heard(m.From, x.Missing(m.From)) {
				b = append(b, 1)
			}
			tail, _ := s.Tail()
			b = append(b, byte(len(x.Missing(0))), byte(len(tail)))
		}
		return b
	}
	for range 5 {
		if !bytes.Equal(told(), told()) {
			t.Fatal("two primaries are unlike")
		}
	}
}

func TestWhatIsHandedInStaysAndIsNotKept(t *testing.T) { // R5, R6
	c := config(3, 2)
	x := fresh(t, c)
	x.w.c = config(3, 2)
	s, _ := NewSealer(c)
	if !term.Same(c, config(3, 2)) {
		t.Error("the configuration is another one now")
	}
	c.Sequencers[0], c.Sequencers[1], c.Shards[0] = nobody, 8, nil
	v := []int{1, 2, 9}
	x.cut(t, v[:2]...)
	if !slices.Equal(v, []int{1, 2, 9}) {
		t.Error("the vector is another one now")
	}
	v[0], v[1] = 0, 0
	x.want(t)
	wantError(t, x.cut(t, 1, 2), api.ErrArg)
	m := sealed(4, 1)
	x.wantHeard(t, m, true)
	x.wantHeard(t, ordered(nobody, 1), false)
	if !message.Same(m, sealed(4, 1)) {
		t.Error("the message is another one now")
	}
	l := chain()
	wantTold(t, s, 4, l[:4], true)
	if !slices.EqualFunc(l, chain(), entry.Same) {
		t.Error("the list is another one now")
	}
	l[0].Cut[0], l[1], l[3].Cut[1] = 0, entry.Entry{}, 9
	wantTold(t, s, nobody, nil, false)
	wantTold(t, s, 0, chain()[:3], true)
	wantTail(t, s, chain()[:4], true)
}

func TestWhatIsToldIsTheCallersOwn(t *testing.T) { // R6
	x := fresh(t, config(3, 2))
	e, _ := x.Cut([]int{1, 0})
	x.w.cut([]int{1, 0})
	e.Cut[0] = 7
	x.want(t)
	for _, e := range chain()[1:] {
		x.wantMade(t, e)
	}
	x.wantHeard(t, ordered(4, 2), true)
	for _, node := range []int{4, 0} {
		l, again := x.Missing(node), x.Missing(node)
		want := chain()[x.w.known[slices.Index(all[:], node)]:]
		l[0].Cut[0], l[len(l)-1].Cut[1], l[1] = 77, 0, entry.Entry{}
		_ = append(l[:1], aTrim(2, 1, 1, 1))
		_ = append(l[0].Cut[:1], 9)
		if !slices.EqualFunc(again, want, entry.Same) {
			t.Error("two answers share")
		}
		x.want(t)
	}
	x.wantMade(t, aCut(7, 8, 201)) // its last cut is the same still
	s := sealer(t, 1)
	wantTold(t, s, 4, chain(), true)
	l, _ := s.Tail()
	l[0].Cut[0], l[5].Cut[1], l[1] = 77, 0, entry.Entry{}
	_ = append(l[:1], aTrim(2, 1, 1, 1))
	wantTail(t, s, chain(), true)
}
