package paxos

import (
	"bytes"
	"math"
	"math/rand/v2"
	"slices"
	"testing"

	"carabiner/api"
	"carabiner/message"
	"carabiner/page"
	"carabiner/term"
)

const first = boss + 1 // the ballot of the round 0

// promised and agreed are what a node tells the node boss of a ballot.
func promised(from, ballot, old, k int) message.Message {
	m := message.Message{Kind: message.Promise, From: from, To: boss, Term: in, Ballot: ballot, Old: old}
	if old > 0 {
		m.Config = config(k)
	}
	return m
}

func agreed(from, ballot int, is bool) message.Message {
	return message.Message{Kind: message.Accepted, From: from, To: boss, Term: in, Ballot: ballot, Is: is}
}

// asked are the Prepares, or Accepts, of boss to these nodes.
func asked(kind, ballot int, nodes []int, c term.Config) []message.Message {
	var l []message.Message
	for _, n := range nodes {
		l = append(l, message.Message{Kind: kind, From: boss, To: n, Term: in, Ballot: ballot, Config: c})
	}
	return l
}

// asker is a proposer, and what it should know: all that was heard behind its last Start.
type asker struct {
	*Proposer
	asks   []int
	own    term.Config
	ballot int
	l      []message.Message
}

// proposer is one of so many nodes that has not started.
func proposer(t *testing.T, nodes int) *asker {
	t.Helper()
	p, err := NewProposer(boss, in, all[:nodes], config(0))
	if err != api.OK || p == nil {
		t.Fatalf("NewProposer = %v, %d", p, err)
	}
	a := &asker{Proposer: p, asks: all[:nodes], own: config(0)}
	a.want(t)
	return a
}

// started is one that started the round 0.
func started(t *testing.T, nodes int) *asker {
	t.Helper()
	a := proposer(t, nodes)
	a.start(t, 0, api.OK)
	return a
}

// most tells whether more than half of the nodes told that.
func (a *asker) most(l []message.Message, kind int) bool {
	have := 0
	for _, n := range a.asks {
		if slices.ContainsFunc(l, func(m message.Message) bool { return m.From == n && m.Kind == kind }) {
			have++
		}
	}
	return 2*have > len(a.asks)
}

// split is what was heard up to where the half had promised, and what behind that; false, if it has not.
func (a *asker) split() (ahead, behind []message.Message, is bool) {
	for i := range a.l {
		if a.most(a.l[:i+1], message.Promise) {
			return a.l[:i+1], a.l[i+1:], true
		}
	}
	return nil, nil, false
}

// value is what it should ask to be accepted.
func (a *asker) value() term.Config {
	ahead, _, _ := a.split()
	best := a.own
	for i, m := range ahead {
		isBest := m.Kind == message.Promise && m.Old > 0
		for k, other := range ahead {
			isBest = isBest && (other.Old < m.Old || other.Old == m.Old && k >= i)
		}
		if isBest {
			best = m.Config
		}
	}
	return best
}

// want fails, if it does not tell what it should.
func (a *asker) want(t *testing.T) {
	t.Helper()
	_, behind, is := a.split()
	behind = slices.DeleteFunc(slices.Clone(behind), func(m message.Message) bool { return !m.Is })
	want := term.Config{}
	is = is && a.most(behind, message.Accepted)
	if is {
		want = a.value()
	}
	if c, told := a.Chosen(); told != is || !term.Same(c, want) {
		t.Fatalf("Chosen = %v, %v, want %v, %v, behind %v", c, told, want, is, a.l)
	}
	if a.Ballot() != a.ballot {
		t.Fatalf("Ballot = %d, want %d", a.Ballot(), a.ballot)
	}
}

// wantAsked fails, if what is asked is not that, or not right.
func wantAsked(t *testing.T, l, want []message.Message) {
	t.Helper()
	if !slices.EqualFunc(l, want, message.Same) {
		t.Fatalf("asked %v, want %v", l, want)
	}
	for _, m := range l {
		if !message.Right(m) {
			t.Fatalf("%v is not right", m)
		}
	}
}

// start fails, if a Start does not tell, or do, what it should.
func (a *asker) start(t *testing.T, round int, want api.Errno) {
	t.Helper()
	l, err := a.Start(round)
	if err != want {
		t.Fatalf("Start(%d) = %d, want %d", round, err, want)
	}
	var told []message.Message
	if err == api.OK {
		a.ballot, a.l = 16*round+boss+1, nil
		told = asked(message.Prepare, a.ballot, a.asks, term.Config{})
	}
	wantAsked(t, l, told)
	a.want(t)
}

// hear fails, if a message that is one for it is not answered as it should be.
func (a *asker) hear(t *testing.T, m message.Message) {
	t.Helper()
	_, _, was := a.split()
	a.l = append(a.l, m)
	var told []message.Message
	if _, _, is := a.split(); is && !was {
		told = asked(message.Accept, a.ballot, a.asks, a.value())
	}
	wantAsked(t, a.Heard(m), told)
	a.want(t)
}

// ignore fails, if a message is answered, or changes anything.
func (a *asker) ignore(t *testing.T, m message.Message) {
	t.Helper()
	wantAsked(t, a.Heard(m), nil)
	a.want(t)
}

func TestNewProposerOfEachNodeAndSlot(t *testing.T) { // P13.2
	for _, id := range []int{math.MinInt, -1, 0, 1, 14, 15, 16, 1 << 40, math.MaxInt} {
		for _, slot := range []int{math.MinInt, -1, 0, 1, 2, in, 63, 64, 65, math.MaxInt} {
			for _, number := range []int{slot, slot - 1, slot + 1, in} {
				c := changed(config(1), func(c *term.Config) { c.Term = number })
				p, err := NewProposer(id, slot, all[:3], c)
				isRight := id >= 0 && id <= 15 && slot >= 1 && slot <= 64 && number == slot
				if isRight != (p != nil) || isRight != (err == api.OK) || !isRight && err != api.ErrArg {
					t.Fatalf("NewProposer(%d, %d) of the term %d = %v, %d", id, slot, number, p, err)
				}
				if !isRight {
					continue
				}
				l, err := p.Start(2)
				if len(l) != 3 || err != api.OK || l[2].From != id || l[2].To != 15 || l[2].Term != slot || l[2].Ballot != 33+id {
					t.Fatalf("Start = %v, %d", l, err)
				}
			}
		}
	}
}

func TestNewProposerOfNodesThatAreNone(t *testing.T) { // P13.2
	for _, nodes := range [][]int{
		nil, {}, {0, 1}, {0, 1, 2, 3}, {0, 1, 2, 3, 4, 5}, {0, 1, 2, 3, 4, 5, 6, 7}, {0, 1, 2, 3, 4, 5, 6, 7, 8}, {0, 1, 2, 3, 4, 5, 6, 7, 8, 9, 10, 11, 12, 13, 14},
		{-1}, {16}, {math.MinInt}, {math.MaxInt}, {0, 1, 16}, {0, -1, 2}, {0, 0, 1}, {0, 1, 0}, {1, 0, 0}, {5, 5, 5}, {0, 1, 2, 3, 0}, {0, 1, 2, 3, 4, 5, 5},
	} {
		if p, err := NewProposer(boss, in, nodes, config(1)); p != nil || err != api.ErrArg {
			t.Errorf("NewProposer of %v = %v, %d", nodes, p, err)
		}
	}
	for _, c := range wrongConfigs() {
		for n := 1; n <= 7; n += 2 {
			if p, err := NewProposer(boss, in, all[:n], c); p != nil || err != api.ErrArg {
				t.Errorf("NewProposer of %v = %v, %d", c, p, err)
			}
		}
	}
	for _, nodes := range [][]int{{0}, {15}, {boss}, {15, 0, boss}, {15, 14, 13, 12, 11, 10, 9}} { // itself may be one
		if p, err := NewProposer(boss, in, nodes, config(1)); p == nil || err != api.OK {
			t.Errorf("NewProposer of %v = %v, %d", nodes, p, err)
		}
	}
}

func TestStartOfEachRound(t *testing.T) { // P13.2
	for n := 1; n <= 7; n += 2 {
		for _, round := range []int{0, 1, 2, 1000, 1<<30 - 1, 1 << 30} {
			a := proposer(t, n)
			a.start(t, round, api.OK)
			for _, wrong := range []int{round, round - 1, 0, -1, math.MinInt, math.MinInt / 16, 1<<30 + 1, 1 << 36, 1 << 60, 1<<60 + 1, math.MaxInt / 16, math.MaxInt} {
				a.start(t, wrong, api.ErrArg)
			}
			if round < 1<<30 {
				a.start(t, round+1, api.OK)
				a.start(t, round, api.ErrArg)
				a.start(t, 1<<30, map[bool]api.Errno{true: api.OK, false: api.ErrArg}[round+1 < 1<<30])
			}
		}
	}
	a := proposer(t, 3)
	for _, wrong := range []int{-1, math.MinInt, math.MinInt / 16, 1<<30 + 1, 1 << 60, math.MaxInt / 16, math.MaxInt} { // ahead of the first one, too
		a.start(t, wrong, api.ErrArg)
		if a.Ballot() != 0 {
			t.Fatalf("Ballot = %d", a.Ballot())
		}
	}
	a.start(t, 0, api.OK)
	for id := range api.MaxNodes { // no two of them have one ballot
		p, _ := NewProposer(id, in, all[:1], config(1))
		for round := range 3 {
			if l, err := p.Start(round); err != api.OK || p.Ballot() != 16*round+id+1 || len(l) != 1 || l[0].Ballot != p.Ballot() {
				t.Fatalf("Ballot = %d", p.Ballot())
			}
		}
	}
}

func TestWhatWasHeardAheadOfAStartIsForgotten(t *testing.T) { // P13.2, P13.3
	for heard := range 6 { // promises, and what was accepted
		a := started(t, 3)
		l := []message.Message{promised(4, first, 3, 1), promised(0, first, 4, 2), agreed(4, first, true), agreed(0, first, true), agreed(15, first, true)}
		for _, m := range l[:heard] {
			a.hear(t, m)
		}
		for _, wrong := range []int{-1, 0, 1<<30 + 1} { // what is refused forgets nothing
			a.start(t, wrong, api.ErrArg)
		}
		if _, is := a.Chosen(); is != (heard >= 4) {
			t.Fatalf("Chosen = %v", is)
		}
		a.start(t, 1, api.OK)
		for _, m := range l {
			a.ignore(t, m) // these are late
		}
		for round, old := range []int{2, 1, 0} { // less than what was heard ahead; and then its own, not that of a Promise
			ballot := first + 16*(round+1)
			a.hear(t, promised(15, ballot, old, 6))
			a.hear(t, promised(0, ballot, 0, 0))
			a.hear(t, agreed(15, ballot, true))
			a.hear(t, agreed(0, ballot, true))
			if c, is := a.Chosen(); !is || !term.Same(c, config(6*min(old, 1))) {
				t.Fatalf("Chosen = %v, %v", c, is)
			}
			a.start(t, round+2, api.OK)
		}
	}
}

func TestHeardOfEachNumberOfNodes(t *testing.T) { // P13.3
	for n := 1; n <= 7; n += 2 {
		a := started(t, n)
		for i, node := range a.asks {
			for range 3 { // of one node more than once is of it once
				_, _, was := a.split()
				a.hear(t, promised(node, first, 0, 0))
				if _, _, is := a.split(); is != (i+1 > n/2) {
					t.Fatalf("behind %d of %d: %v, %v", i+1, n, was, is)
				}
			}
		}
		for i, node := range a.asks {
			for range 3 {
				a.hear(t, agreed(node, first, false)) // that it has not
				if _, is := a.Chosen(); is != (i > n/2) {
					t.Fatalf("behind %d of %d: %v", i, n, is)
				}
			}
			for range 3 {
				a.hear(t, agreed(node, first, true))
				if c, is := a.Chosen(); is != (i+1 > n/2) || is && !term.Same(c, config(0)) {
					t.Fatalf("behind %d of %d: %v, %v", i+1, n, c, is)
				}
			}
		}
	}
}

func TestHeardOfAnAcceptedAheadOfTheHalf(t *testing.T) { // P13.3
	a := started(t, 3)
	for range 2 {
		for _, node := range a.asks {
			a.ignore(t, agreed(node, first, true))
		}
		a.hear(t, promised(0, first, 0, 0))
	}
	a.hear(t, promised(15, first, 0, 0))
	for _, node := range []int{4, 4, 0} { // what came ahead of that does not count
		if _, is := a.Chosen(); is {
			t.Fatal("it is chosen")
		}
		a.hear(t, agreed(node, first, true))
	}
	if _, is := a.Chosen(); !is {
		t.Fatal("it is not chosen")
	}
}

func TestTheGreatestOld(t *testing.T) { // P13.3
	p := promised
	for i, x := range []struct {
		l    []message.Message
		want int // whose configuration; 0 is its own
	}{
		{[]message.Message{p(4, first, 0, 0), p(0, first, 0, 0), p(15, first, 0, 0)}, 0},
		{[]message.Message{p(4, first, 1, 1), p(0, first, 0, 0), p(15, first, 0, 0)}, 1},
		{[]message.Message{p(4, first, 0, 0), p(0, first, 0, 0), p(15, first, 1, 1)}, 1},
		{[]message.Message{p(4, first, 2, 1), p(0, first, 3, 2), p(15, first, 1, 3)}, 2},
		{[]message.Message{p(4, first, 1, 1), p(0, first, 2, 2), p(15, first, 3, 3)}, 3},
		{[]message.Message{p(4, first, 3, 1), p(0, first, 2, 2), p(15, first, 1, 3)}, 1},
		{[]message.Message{p(4, first, 2, 1), p(0, first, 2, 2), p(15, first, 2, 3)}, 1}, // of equal ones the first
		{[]message.Message{p(4, first, 1, 1), p(0, first, 2, 2), p(15, first, 2, 3)}, 2},
		{[]message.Message{p(4, first, 2, 1), p(4, first, 2, 2), p(0, first, 0, 0), p(15, first, 0, 0)}, 1}, // of one node unlike ones
		{[]message.Message{p(4, first, 1, 1), p(4, first, 2, 2), p(0, first, 0, 0), p(15, first, 0, 0)}, 2}, // each of its Promises
		{[]message.Message{p(4, first, 2, 1), p(4, first, 1, 2), p(0, first, 0, 0), p(15, first, 0, 0)}, 1},
		{[]message.Message{p(4, first, 0, 0), p(4, first, 1, 2), p(0, first, 0, 0), p(15, first, 0, 0)}, 2},
		{[]message.Message{p(4, first, 1, 2), p(4, first, 0, 0), p(0, first, 0, 0), p(15, first, 0, 0)}, 2},
		{[]message.Message{p(4, first, 1, 2), p(0, first, 1, 3), p(4, first, 1, 1), p(15, first, 1, 4)}, 2},
		{[]message.Message{p(4, first, 5, 2), p(0, first, 6, 3), p(15, first, 1<<40, 1)}, 1}, // its own ballot, and above it
		{[]message.Message{p(4, first, 0, 0), p(4, first, 0, 0), p(4, first, 0, 0), p(0, first, 0, 0), p(15, first, 4, 9)}, 9},
	} {
		a := started(t, 5)
		for _, m := range x.l {
			a.hear(t, m)
		}
		if _, _, is := a.split(); !is || !term.Same(a.value(), config(x.want)) {
			t.Fatalf("%d: %v, %v: this test is wrong", i, a.value(), is)
		}
		for _, late := range []message.Message{p(7, first, 1<<40, 12), p(2, first, 5, 13), p(4, first, 1<<40, 14), p(7, first, 0, 0)} {
			a.hear(t, late) // what comes behind that is not asked
		}
		for _, node := range a.asks[2:] {
			a.hear(t, agreed(node, first, true))
		}
		if c, is := a.Chosen(); !is || !term.Same(c, config(x.want)) {
			t.Fatalf("%d: Chosen = %v, %v", i, c, is)
		}
	}
}

func TestHeardOfWhatIsNotForIt(t *testing.T) { // P13.3
	record := api.Record{Id: api.Id{Client: 1, Number: 1}}
	wrong := []func(m *message.Message){
		func(m *message.Message) { m.Kind = 0 }, func(m *message.Message) { m.Kind = 11 }, func(m *message.Message) { m.Kind = -8 },
		func(m *message.Message) { m.From = out }, func(m *message.Message) { m.From = -1 }, func(m *message.Message) { m.From = api.MaxNodes }, func(m *message.Message) { m.From = boss },
		func(m *message.Message) { m.To = boss + 1 }, func(m *message.Message) { m.To = 0 }, func(m *message.Message) { m.To = -1 },
		func(m *message.Message) { m.Term = in + 1 }, func(m *message.Message) { m.Term, m.Config.Term = in+1, in+1 }, func(m *message.Message) { m.Term = 0 },
		func(m *message.Message) { m.Term = in - 1 }, func(m *message.Message) { m.Term, m.Config.Term = in-1, in-1 },
		func(m *message.Message) { m.Ballot-- }, func(m *message.Message) { m.Ballot++ }, func(m *message.Message) { m.Ballot += 16 },
		func(m *message.Message) { m.Ballot = 0 }, func(m *message.Message) { m.Ballot = -m.Ballot }, func(m *message.Message) { m.Ballot -= 16 },
		func(m *message.Message) { m.Old = -1 }, func(m *message.Message) { m.Old = 1<<40 + 1 }, func(m *message.Message) { m.Old = 1; m.Config = term.Config{} },
		func(m *message.Message) { m.Number = 1 }, func(m *message.Message) { m.Shard = 1 }, func(m *message.Message) { m.Record = record },
		func(m *message.Message) { m.Entry.Kind = 1 }, func(m *message.Message) { m.Config.Term++ }, func(m *message.Message) { m.Config.Shards = nil; m.Config.Term = 1 },
	}
	others := []message.Message{
		{}, {Kind: message.Keep, From: 4, To: boss, Term: in, Record: record}, {Kind: message.Kept, From: 4, To: boss, Term: in},
		{Kind: message.Ordered, From: 4, To: boss, Term: in}, {Kind: message.Seal, From: 4, To: boss, Term: in}, {Kind: message.Sealed, From: 4, To: boss, Term: in, Is: true},
		{Kind: message.Prepare, From: 4, To: boss, Term: in, Ballot: first + 16}, {Kind: message.Accept, From: 4, To: boss, Term: in, Ballot: first + 16, Config: config(1)},
	}
	for _, heard := range []int{0, 1, 2, 3} { // it has not started, it has; one promised, and then two
		a := proposer(t, 3)
		if heard > 0 {
			a.start(t, 1, api.OK)
		}
		for _, node := range a.asks[:max(0, heard-1)] {
			a.hear(t, promised(node, first+16, 0, 0))
		}
		for range 2 {
			for _, f := range wrong {
				for _, node := range a.asks {
					a.ignore(t, changed(promised(node, first+16, 4, 1), f))
					a.ignore(t, changed(agreed(node, first+16, true), f))
				}
			}
			for _, m := range others {
				a.ignore(t, m)
			}
			a.ignore(t, changed(promised(15, first+16, 0, 0), func(m *message.Message) { m.Is = true }))
			a.ignore(t, changed(agreed(15, first+16, true), func(m *message.Message) { m.Config = config(1) }))
		}
		if heard == 0 { // what comes ahead of the Start is not for it
			a.ignore(t, promised(4, first+16, 0, 0))
			a.start(t, 1, api.OK)
		}
		for _, node := range a.asks { // nothing of all that is in its way
			a.hear(t, promised(node, first+16, 0, 0))
		}
		for _, node := range a.asks {
			a.hear(t, agreed(node, first+16, true))
		}
		if c, is := a.Chosen(); !is || !term.Same(c, config(0)) {
			t.Fatalf("Chosen = %v, %v", c, is)
		}
	}
}

func TestScriptsOfAProposer(t *testing.T) { // P13.2, P13.3
	next := rand.New(rand.NewPCG(13, 3))
	for range 400 {
		a := proposer(t, 1+2*next.IntN(4))
		for range 60 {
			node, ballot := a.asks[next.IntN(len(a.asks))], a.ballot
			if ballot == 0 || next.IntN(30) == 0 {
				round := next.IntN(4) + (a.ballot-1)/16
				err := api.OK
				if 16*round+boss+1 <= a.ballot {
					err = api.ErrArg
				}
				a.start(t, round, err)
				continue
			}
			switch next.IntN(8) {
			case 0:
				a.ignore(t, promised(node, ballot-16*(1-2*next.IntN(2)), next.IntN(9), 3))
				a.ignore(t, promised(out, ballot, 9, 3))
			case 1, 2, 3:
				a.hear(t, promised(node, ballot, max(0, next.IntN(9)-4), next.IntN(9)))
			case 4:
				a.hear(t, agreed(node, ballot, false))
			default:
				m := agreed(node, ballot, true)
				if _, _, is := a.split(); is {
					a.hear(t, m)
				} else {
					a.ignore(t, m)
				}
			}
		}
	}
}

// vote says who accepted with which ballot.
type vote struct{ node, ballot int }

// world is a slot: its acceptors, proposers, and what is on its way.
type world struct {
	t         *testing.T
	next      *rand.Rand
	nodes     []int
	acceptors map[int]actor
	promised  map[int]int // of each acceptor the greatest ballot that it ever told to be promised
	votes     map[vote]term.Config
	proposers []*Proposer
	rounds    []int // the next one of each proposer
	wire      []message.Message
	chosen    []term.Config // that more than half of the acceptors ever accepted with one ballot
	known     int           // how often a proposer told one
	made      int           // how many proposals there were
}

func newWorld(t *testing.T, next *rand.Rand, nodes int) *world {
	w := &world{t: t, next: next, nodes: all[:nodes], acceptors: map[int]actor{}, promised: map[int]int{}, votes: map[vote]term.Config{}}
	for _, node := range w.nodes {
		w.reopen(node, page.New(nil))
	}
	w.proposers, w.rounds = make([]*Proposer, 3), make([]int, 3)
	for i := range w.proposers {
		w.propose(i)
	}
	return w
}

// reopen makes an acceptor that of a store.
func (w *world) reopen(node int, s *page.Store) {
	a, err := NewAcceptor(node, in, s)
	if err != api.OK {
		w.t.Fatalf("NewAcceptor = %d", err)
	}
	w.acceptors[node] = actor{a, s}
}

// propose makes a proposer anew: it knows nothing, and proposes what nobody did.
func (w *world) propose(i int) {
	w.made++
	c := config(0)
	for n := w.made; n > 0; n /= 3 {
		c.Shards = append(c.Shards, []int{n % 3})
	}
	p, err := NewProposer(i, in, w.nodes, c)
	if err != api.OK {
		w.t.Fatalf("NewProposer = %d", err)
	}
	w.proposers[i] = p
}

// send puts messages on their way, or loses them.
func (w *world) send(l ...message.Message) {
	for _, m := range l {
		if w.next.IntN(8) > 0 {
			w.wire = append(w.wire, m)
		}
	}
}

// take lets a Prepare or an Accept come.
func (w *world) take(m message.Message) {
	told, err := w.acceptors[m.To].Take(m)
	if err != api.OK {
		return
	}
	w.promised[m.To] = max(w.promised[m.To], told.Ballot)
	if told.Kind == message.Accepted {
		w.votes[vote{m.To, m.Ballot}] = m.Config
		w.count(m)
	}
	w.send(told)
}

// count finds what is chosen, now that one was accepted.
func (w *world) count(m message.Message) {
	have := 0
	for _, node := range w.nodes {
		if c, is := w.votes[vote{node, m.Ballot}]; is {
			if !term.Same(c, m.Config) {
				w.t.Fatalf("two configurations of the ballot %d", m.Ballot)
			}
			have++
		}
	}
	if 2*have > len(w.nodes) && !slices.ContainsFunc(w.chosen, func(c term.Config) bool { return term.Same(c, m.Config) }) {
		w.chosen = append(w.chosen, m.Config)
	}
}

// deliver lets one of the messages come, maybe once more than it was sent.
func (w *world) deliver() {
	if len(w.wire) == 0 {
		return
	}
	i := w.next.IntN(len(w.wire))
	m := w.wire[i]
	if w.next.IntN(6) > 0 {
		w.wire = slices.Delete(w.wire, i, i+1)
	}
	if m.Kind == message.Promise || m.Kind == message.Accepted {
		w.send(w.proposers[m.To].Heard(m)...)
	} else {
		w.take(m)
	}
}

// step does something.
func (w *world) step() {
	i, node := w.next.IntN(3), w.nodes[w.next.IntN(len(w.nodes))]
	switch w.next.IntN(60) {
	case 0, 1, 2:
		l, err := w.proposers[i].Start(w.rounds[i])
		if err != api.OK {
			w.t.Fatalf("Start(%d) = %d", w.rounds[i], err)
		}
		w.rounds[i] = max(w.rounds[i], w.rounds[w.next.IntN(3)]) + 1
		w.send(l...)
	case 3:
		w.propose(i)
	case 4:
		w.acceptors[node].Crash(w.next.IntN(60) - 10)
	case 5:
		w.reopen(node, page.New(w.acceptors[node].s.Bytes()))
	case 6:
		w.acceptors[node].s.Off(w.next.IntN(2) == 0)
	default:
		w.deliver()
	}
}

// check fails, if two were chosen, a proposer tells what is not, or a promise fell.
func (w *world) check() {
	w.t.Helper()
	if len(w.chosen) > 1 {
		w.t.Fatalf("both are chosen: %v", w.chosen)
	}
	for _, p := range w.proposers {
		c, is := p.Chosen()
		if is && (len(w.chosen) == 0 || !term.Same(c, w.chosen[0])) {
			w.t.Fatalf("%v is told to be chosen, and it is %v", c, w.chosen)
		}
		if is {
			w.known++
		}
	}
	for _, node := range w.nodes {
		if now := w.acceptors[node].Promised(); now < w.promised[node] {
			w.t.Fatalf("the node %d promised %d, and now %d", node, w.promised[node], now)
		}
	}
}

func TestNeverTwoUnlikeConfigurationsAreChosen(t *testing.T) { // P13.4
	next := rand.New(rand.NewPCG(13, 4))
	for _, nodes := range []int{3, 3, 3, 1, 5, 7} {
		chosen, known, made := 0, 0, 0
		for range 150 {
			w := newWorld(t, next, nodes)
			for range 400 {
				w.step()
				w.check()
			}
			chosen, known, made = chosen+len(w.chosen), known+min(w.known, 1), made+w.made
		}
		if chosen < 75 || known < 50 || made < 900 {
			t.Errorf("of %d nodes %d were chosen, of which %d were known, of %d: this test is too weak", nodes, chosen, known, made)
		}
	}
}

// settle lets all that a proposer asks come, and all that is answered, at once, but to the nodes that are gone.
func settle(t *testing.T, p *Proposer, acceptors map[int]actor, round int, gone ...int) {
	t.Helper()
	wire, err := p.Start(round)
	if err != api.OK {
		t.Fatalf("Start(%d) = %d", round, err)
	}
	for len(wire) > 0 {
		m := wire[0]
		wire = wire[1:]
		if m.Kind == message.Promise || m.Kind == message.Accepted {
			wire = append(wire, p.Heard(m)...)
		} else if told, err := acceptors[m.To].Take(m); err == api.OK && !slices.Contains(gone, m.To) {
			wire = append(wire, told)
		}
	}
}

func TestWhatIsChosenStays(t *testing.T) { // P13.4
	next := rand.New(rand.NewPCG(13, 5))
	for nodes := 1; nodes <= 7; nodes += 2 {
		w := newWorld(t, next, nodes)
		for round := range 20 {
			gone := slices.Clone(w.nodes)
			next.Shuffle(nodes, func(i, k int) { gone[i], gone[k] = gone[k], gone[i] })
			p, err := NewProposer(round%16, in, w.nodes, config(round%13))
			if err != api.OK {
				t.Fatalf("NewProposer = %d", err)
			}
			settle(t, p, w.acceptors, round, gone[:next.IntN(nodes/2+1)]...)
			if c, is := p.Chosen(); !is || !term.Same(c, config(0)) { // that of the first one
				t.Fatalf("in the round %d of %d nodes: Chosen = %v, %v", round, nodes, c, is)
			}
			for _, node := range w.nodes {
				w.acceptors[node].Crash(next.IntN(9))
			}
		}
	}
}

func TestTwoThatProposeAtOneTime(t *testing.T) { // P13.4
	for _, isLate := range []bool{false, true} {
		w := newWorld(t, rand.New(rand.NewPCG(13, 6)), 3)
		p, q := w.proposers[0], w.proposers[1]
		one, _ := p.Start(0)
		var accepts []message.Message
		for _, m := range one {
			told, _ := w.acceptors[m.To].Take(m)
			accepts = append(accepts, p.Heard(told)...)
		}
		if isLate { // it accepts ahead of what the other one asks for
			told, err := w.acceptors[4].Take(accepts[0])
			if err != api.OK || p.Heard(told) != nil {
				t.Fatal("it does not accept")
			}
		}
		settle(t, q, w.acceptors, 0)
		for _, m := range accepts {
			if _, err := w.acceptors[m.To].Take(m); err != api.ErrPaxosOld {
				t.Fatalf("Take of what is late = %d", err)
			}
		}
		want := q.mine
		if isLate {
			want = p.mine
		}
		if c, is := q.Chosen(); !is || !term.Same(c, want) {
			t.Fatalf("Chosen = %v, %v", c, is)
		}
		if c, is := p.Chosen(); is || !term.Same(c, term.Config{}) {
			t.Fatalf("Chosen = %v, %v", c, is)
		}
		settle(t, p, w.acceptors, 1)
		if c, is := p.Chosen(); !is || !term.Same(c, want) {
			t.Fatalf("Chosen = %v, %v", c, is)
		}
	}
}

func TestWhateverComesNothingPanics(t *testing.T) { // R1
	next := rand.New(rand.NewPCG(13, 9))
	numbers := []int{math.MinInt, -1, 0, 1, 2, 3, 4, 5, 8, 15, 16, 21, 22, 64, 65, 1 << 30, 1 << 40, 1<<40 + 1, math.MaxInt}
	some := func() int { return numbers[next.IntN(len(numbers))] }
	row := func() []int {
		var l []int
		for range next.IntN(4) {
			l = append(l, some())
		}
		return l
	}
	a, p := fresh(t), started(t, 3)
	for range 20000 {
		c := term.Config{Term: some(), Sequencers: row(), Shards: [][]int{row(), row()}[:next.IntN(3)]}
		if p, err := NewProposer(some(), some(), row(), c); (p == nil) != (err == api.ErrArg) {
			t.Fatalf("NewProposer = %v, %d", p, err)
		}
		m := message.Message{Kind: 7 + next.IntN(4), From: 4, To: me, Term: in, Ballot: some(), Old: some() * next.IntN(2), Is: next.IntN(2) == 0, Config: c}
		if next.IntN(3) > 0 {
			m.From, m.Term = some(), some()
		}
		told, err := a.Take(m)
		if (err == api.OK) != message.Right(told) {
			t.Fatalf("Take(%v) = %v, %d", m, told, err)
		}
		m.To = boss
		for _, told := range append(p.Heard(m), p.Heard(told)...) {
			if !message.Right(told) {
				t.Fatalf("%v is not right", told)
			}
		}
		b := make([]byte, next.IntN(40))
		for i := range b {
			b[i] = byte(next.IntN(6))
		}
		a.s.Append(b)
		if next.IntN(50) == 0 {
			a.Crash(some())
			p.Start(some())
			p.Chosen()
			a = fresh(t)
		}
	}
}

func TestTheSameCallsTellTheSame(t *testing.T) { // R7
	told := func() []byte {
		next, b := rand.New(rand.NewPCG(7, 7)), []byte(nil)
		w := newWorld(t, next, 7)
		for range 600 {
			w.step()
			for _, m := range w.wire {
				text, _ := message.Encode(m)
				b = append(b, text...)
			}
		}
		for _, node := range w.nodes {
			b = append(b, w.acceptors[node].s.Bytes()...)
		}
		return b
	}
	for range 3 {
		if !bytes.Equal(told(), told()) {
			t.Fatal("two worlds are unlike")
		}
	}
}

// spoil writes into all lists of a configuration.
func spoil(c term.Config) {
	c.Sequencers[0], c.Sequencers[2], c.Shards[0][0] = 9, 9, 9
	c.Shards[1] = []int{9}
}

func TestWhatIsHandedInStaysAndIsNotKept(t *testing.T) { // R5, R6
	nodes, c := []int{4, 0, 15}, config(0)
	p, _ := NewProposer(boss, in, nodes, c)
	if !slices.Equal(nodes, []int{4, 0, 15}) || !term.Same(c, config(0)) {
		t.Error("the nodes, or the configuration, are others now")
	}
	spoil(c)
	nodes[0] = out
	a := &asker{Proposer: p, asks: all[:3], own: config(0)}
	a.start(t, 0, api.OK)
	a.ignore(t, promised(out, first, 0, 0))
	a.hear(t, promised(4, first, 0, 0))
	a.hear(t, promised(0, first, 0, 0)) // the Accepts have the configuration as it was
	a.start(t, 1, api.OK)
	m := promised(4, first+16, 3, 1)
	a.Heard(m)
	if !message.Same(m, promised(4, first+16, 3, 1)) {
		t.Error("the message is another one now")
	}
	spoil(m.Config)
	a.l = append(a.l, promised(4, first+16, 3, 1))
	a.hear(t, promised(0, first+16, 0, 0))
	a.hear(t, agreed(4, first+16, true))
	a.hear(t, agreed(0, first+16, true))

	x := fresh(t)
	m = accept(7, config(1))
	x.wantTake(t, m, accepted(7))
	if !message.Same(m, accept(7, config(1))) {
		t.Error("the message is another one now")
	}
	spoil(m.Config)
	x.wantSafe(t, state{7, 7, config(1)})
	x.wantTake(t, prepare(8), promise(8, state{8, 7, config(1)}))
}

func TestWhatIsToldIsTheCallersOwn(t *testing.T) { // R6
	x := fresh(t)
	x.wantTake(t, accept(7, config(1)), accepted(7))
	_, c := x.Accepted()
	spoil(c)
	x.wantSafe(t, state{7, 7, config(1)})
	told, _ := x.Take(prepare(8))
	spoil(told.Config)
	x.wantSafe(t, state{8, 7, config(1)})
	x.wantTake(t, accept(9, config(1)), accepted(9))
	x.wantSafe(t, state{9, 9, config(1)})

	for _, old := range []int{0, 3} { // its own configuration, or that of a Promise
		a := started(t, 3)
		l, _ := a.Start(1)
		l[0], l[1].To = message.Message{}, out
		_ = append(l[:0], l[2])
		a.ballot += 16
		a.hear(t, promised(4, first+16, old, 1))
		a.l = append(a.l, promised(0, first+16, 0, 0))
		l = a.Heard(a.l[1])
		spoil(l[0].Config)
		wantAsked(t, l[1:], asked(message.Accept, first+16, []int{0, 15}, a.value()))
		for _, node := range a.asks {
			a.hear(t, agreed(node, first+16, true))
		}
		c, _ := a.Chosen()
		spoil(c)
		a.want(t)
		a.start(t, 2, api.OK)
		a.hear(t, promised(0, first+32, 0, 0))
		a.hear(t, promised(4, first+32, 0, 0)) // its own one is as it was
	}
}
