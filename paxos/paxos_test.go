package paxos

import (
	"bytes"
	"encoding/binary"
	"math"
	"math/rand/v2"
	"slices"
	"testing"

	"carabiner/api"
	"carabiner/message"
	"carabiner/page"
	"carabiner/term"
)

const (
	me   = 2  // the acceptor that most tests are of
	boss = 5  // the proposer that most tests are of
	in   = 3  // the slot that most tests are of
	out  = 10 // a node that is in no list of these tests
)

// all are nodes that may be asked: those of a test are the first ones of them.
var all = [api.MaxReplicas]int{4, 0, 15, 7, 2, 9, 1}

// config is one of the slot, another one for each k.
func config(k int) term.Config {
	return term.Config{Term: in, Sequencers: []int{0, 1, 2}, Shards: [][]int{{k, 14}, {4}}}
}

// changed is a configuration, or a message, that is changed.
func changed[T any](c T, f func(c *T)) T {
	f(&c)
	return c
}

// wrongConfigs are some that are not right, or of another term.
func wrongConfigs() []term.Config {
	l := []term.Config{{}}
	for _, n := range []int{math.MinInt, -1, 0, 1, in - 1, in + 1, api.MaxTerms, api.MaxTerms + 1, math.MaxInt} {
		l = append(l, changed(config(1), func(c *term.Config) { c.Term = n }))
	}
	for _, s := range [][]int{nil, {0, 1}, {0, 1, 0}, {0, -1, 2}, {0, 1, api.MaxNodes}, {0, 1, 2, 3, 4, 5, 6, 7, 8}} {
		l = append(l, changed(config(1), func(c *term.Config) { c.Sequencers = s }))
	}
	for _, s := range [][][]int{nil, {{}}, {{3}, nil}, {{3, 3}}, {{3, 4, 5, 6}}, {{-1}}, {{api.MaxNodes}}, make([][]int, 9)} {
		l = append(l, changed(config(1), func(c *term.Config) { c.Shards = s }))
	}
	return l
}

// prepare and accept are messages of the node Client to the node me; promise and accepted what is told of these.
func prepare(ballot int) message.Message {
	return message.Message{Kind: message.Prepare, From: api.Client, To: me, Term: in, Ballot: ballot}
}

func accept(ballot int, c term.Config) message.Message {
	return message.Message{Kind: message.Accept, From: api.Client, To: me, Term: in, Ballot: ballot, Config: c}
}

func promise(ballot int, d state) message.Message {
	return message.Message{Kind: message.Promise, From: me, To: api.Client, Term: in, Ballot: ballot, Old: d.accepted, Config: d.config}
}

func accepted(ballot int) message.Message {
	return message.Message{Kind: message.Accepted, From: me, To: api.Client, Term: in, Ballot: ballot, Is: true}
}

// toldOf is what is told of a Prepare or an Accept, if it did that.
func toldOf(m message.Message, d state) message.Message {
	if m.Kind == message.Prepare {
		return promise(m.Ballot, d)
	}
	return accepted(m.Ballot)
}

// text is what a frame of these has, whether an acceptor may have them or not.
func text(promised, accepted int, c []byte) []byte {
	b := binary.AppendUvarint(nil, uint64(promised))
	b = binary.AppendUvarint(b, uint64(accepted))
	return append(binary.AppendUvarint(b, uint64(len(c))), c...)
}

// coded is a configuration as bytes; none, if it is the zero one.
func coded(c term.Config) []byte {
	b, _ := term.Encode(c)
	return b
}

// frameOf is what the frame of a state has.
func frameOf(d state) []byte { return text(d.promised, d.accepted, coded(d.config)) }

// storeOf is a store with frames of these, of which so many are synced.
func storeOf(t *testing.T, synced int, l ...[]byte) *page.Store {
	t.Helper()
	s := page.New(nil)
	for i, b := range l {
		if i == synced {
			s.Sync()
		}
		if _, err := s.Append(b); err != api.OK {
			t.Fatalf("Append of the frame %d: %d", i, err)
		}
	}
	if synced >= len(l) {
		s.Sync()
	}
	return s
}

// sameState tells whether two are one.
func sameState(a, b state) bool {
	return a.promised == b.promised && a.accepted == b.accepted && term.Same(a.config, b.config)
}

// actor is an acceptor, and its store.
type actor struct {
	*Acceptor
	s *page.Store
}

// of is the acceptor of a store.
func of(t *testing.T, s *page.Store) actor {
	t.Helper()
	a, err := NewAcceptor(me, in, s)
	if err != api.OK || a == nil {
		t.Fatalf("NewAcceptor = %v, %d", a, err)
	}
	return actor{a, s}
}

// fresh is one that did nothing.
func fresh(t *testing.T) actor {
	t.Helper()
	return of(t, page.New(nil))
}

// want fails, if an acceptor does not tell that it did just this.
func (a actor) want(t *testing.T, d state) {
	t.Helper()
	ballot, c := a.Accepted()
	if told := (state{a.Promised(), ballot, c}); !sameState(told, d) {
		t.Fatalf("it did %v, want %v", told, d)
	}
}

// wantSafe fails, if this is not synced, too.
func (a actor) wantSafe(t *testing.T, d state) {
	t.Helper()
	a.want(t, d)
	if a.s.Synced() != a.s.Len() {
		t.Fatalf("of %d bytes %d are synced", a.s.Len(), a.s.Synced())
	}
	of(t, page.New(a.s.Bytes())).want(t, d)
}

// wantTake fails, if a Take is not answered so.
func (a actor) wantTake(t *testing.T, m, want message.Message) {
	t.Helper()
	if told, err := a.Take(m); err != api.OK || !message.Same(told, want) || !message.Right(told) {
		t.Fatalf("Take(%v) = %v, %d, want %v", m, told, err, want)
	}
}

// wantRefused fails, if a Take is not answered by an error alone, or changes the acceptor or its store.
func (a actor) wantRefused(t *testing.T, m message.Message, want api.Errno) {
	t.Helper()
	ballot, c := a.Accepted()
	d, frames, synced := state{a.Promised(), ballot, c}, a.s.Frames(), a.s.Synced()
	if told, err := a.Take(m); err != want || !message.Same(told, message.Message{}) {
		t.Fatalf("Take(%v) = %v, %d, want %d", m, told, err, want)
	}
	a.want(t, d)
	if !slices.EqualFunc(a.s.Frames(), frames, bytes.Equal) || a.s.Synced() != synced {
		t.Fatalf("the store is another one behind Take(%v)", m)
	}
}

// wantFrames fails, if just these frames are in the store.
func (a actor) wantFrames(t *testing.T, l ...[]byte) {
	t.Helper()
	if !slices.EqualFunc(a.s.Frames(), l, bytes.Equal) {
		t.Fatalf("Frames = %x, want %x", a.s.Frames(), l)
	}
}

// states are some that follow one another.
func states() []state {
	return []state{{promised: 1}, {promised: 300}, {300, 300, config(1)}, {301, 300, config(1)}, {400, 400, config(2)}, {400, 400, config(3)}, {1 << 40, 400, config(3)}, {1 << 40, 1 << 40, config(4)}}
}

// asks are what leads from each of the states to the next one.
func asks() []message.Message {
	return []message.Message{prepare(1), prepare(300), accept(300, config(1)), prepare(301), accept(400, config(2)), accept(400, config(3)), prepare(1 << 40), accept(1<<40, config(4))}
}

func TestExamplesOfTheChapter(t *testing.T) { // P13.1
	a, c := fresh(t), config(1)
	a.wantTake(t, prepare(5), promise(5, state{}))
	a.wantRefused(t, prepare(3), api.ErrPaxosOld)
	a.wantTake(t, accept(5, c), accepted(5))
	a.wantTake(t, prepare(9), promise(9, state{9, 5, c}))
}

func TestNewAcceptorOfEachNodeAndSlot(t *testing.T) { // P13.1
	numbers := []int{math.MinInt, -1, 0, 1, 2, 15, 16, 17, 63, 64, 65, 1 << 40, math.MaxInt}
	for _, id := range numbers {
		for _, slot := range numbers {
			for _, s := range []*page.Store{page.New(nil), storeOf(t, 1, frameOf(state{promised: 7})), nil} {
				a, err := NewAcceptor(id, slot, s)
				if id < 0 || id > 15 || slot < 1 || slot > 64 || s == nil {
					if a != nil || err != api.ErrArg {
						t.Errorf("NewAcceptor(%d, %d) = %v, %d", id, slot, a, err)
					}
					continue
				}
				if a == nil || err != api.OK {
					t.Fatalf("NewAcceptor(%d, %d) = %v, %d", id, slot, a, err)
				}
				m := message.Message{Kind: message.Prepare, From: 5, To: id, Term: slot, Ballot: 7}
				want := message.Message{Kind: message.Promise, From: id, To: 5, Term: slot, Ballot: 7}
				actor{a, s}.wantTake(t, m, want)
			}
		}
	}
}

func TestNewAcceptorOfEachState(t *testing.T) { // P13.1
	var frames [][]byte
	for i, d := range append([]state{{}}, states()...) {
		if i > 0 {
			frames = append(frames, frameOf(d))
		}
		for synced := range len(frames) + 1 {
			s := storeOf(t, synced, frames...)
			had := []int{s.Len(), s.Synced()}
			a := of(t, s)
			a.want(t, d)
			a.wantFrames(t, frames...)
			if !slices.Equal(had, []int{s.Len(), s.Synced()}) {
				t.Fatalf("the store has %d bytes, %d synced, and had %v", s.Len(), s.Synced(), had)
			}
			if i < len(states()) { // it goes on
				a.wantTake(t, asks()[i], toldOf(asks()[i], d))
				a.wantSafe(t, states()[i])
			}
		}
	}
	of(t, storeOf(t, 2, frameOf(states()[2]), text(0, 0, nil))).want(t, state{}) // both are none: that is a frame, too
	of(t, storeOf(t, 2, frameOf(states()[4]), frameOf(states()[1]))).want(t, states()[1])
}

// wrongFrames are what no frame of an acceptor has.
func wrongFrames() map[string][]byte {
	c := coded(config(1))
	turned := bytes.Clone(c)
	turned[1] ^= 1
	l := map[string][]byte{
		"none": {}, "a byte": {5}, "one ballot more": {5, 0}, "junk": []byte("junk"), "ends": text(5, 5, c)[:9],
		"above the promised one": text(5, 6, c), "above none": text(0, 1, c), "no configuration": text(5, 5, nil), "none of none": text(0, 5, nil),
		"a configuration of 0": text(5, 0, c), "of none": text(0, 0, c), "of another sum": text(5, 5, turned), "cut": text(5, 5, c[:len(c)-1]),
		"more": append(text(5, 5, c), 0), "more of none": append(text(5, 0, nil), 0), "a longer number": {0x85, 0, 0, 0}, "a longer 0": {5, 0x80, 0, 0},
		"above MaxCount": text(1<<40+1, 0, nil), "both above": text(1<<40+1, 1<<40+1, c), "far above": text(1<<62, 5, c),
		"another text": text(5, 5, []byte("configuration")), "one zero": text(5, 0, []byte{0}),
	}
	for _, n := range []int{1, in - 1, in + 1, api.MaxTerms} {
		l["of the term "+string(rune('0'+n))] = text(5, 5, coded(changed(config(1), func(c *term.Config) { c.Term = n })))
	}
	return l
}

func TestNewAcceptorWhereTheLastFrameDoesNotCount(t *testing.T) { // P13.1
	for name, wrong := range wrongFrames() {
		of(t, storeOf(t, 1, wrong)).want(t, state{})
		of(t, storeOf(t, 2, wrong, wrong)).want(t, state{})
		for i, d := range states() {
			for _, l := range [][][]byte{{frameOf(d), wrong}, {frameOf(d), wrong, wrong}, {wrong, frameOf(d)}, {wrong, frameOf(d), wrong}, {frameOf(states()[0]), wrong, frameOf(d), wrong, {1}}} {
				a := of(t, storeOf(t, len(l), l...))
				if ballot, c := a.Accepted(); !sameState(d, state{a.Promised(), ballot, c}) {
					t.Fatalf("%s: it did %d, %d, %v, want %v", name, a.Promised(), ballot, c, d)
				}
				a.wantTake(t, asks()[i], toldOf(asks()[i], d))
				a.wantFrames(t, l...) // nothing is new
			}
		}
	}
}

func TestWhatItsFramesHave(t *testing.T) { // P13.1
	a, l, had := fresh(t), [][]byte(nil), state{}
	a.want(t, state{})
	for i, m := range asks() {
		d := states()[i]
		for range 2 { // once more is told so, and is nothing new
			a.wantTake(t, m, toldOf(m, had))
			if len(l) == i {
				l = append(l, frameOf(d))
			}
			a.wantFrames(t, l...)
			a.wantSafe(t, d)
			had = d
		}
	}
	c := coded(config(1))
	b := append([]byte{0xac, 2, 0xac, 2, byte(len(c))}, c...) // by hand: 300, 300, and a text
	one := of(t, page.New(nil))
	one.wantTake(t, accept(300, config(1)), accepted(300))
	one.wantFrames(t, b)
}

func TestTakeOfEachBallot(t *testing.T) { // P13.1
	for _, d := range states() {
		for _, n := range []int{1, 2, d.accepted - 1, d.accepted, d.accepted + 1, d.promised - 1, d.promised, d.promised + 1, 1 << 39, 1<<40 - 1, 1 << 40} {
			if n < 1 || n > 1<<40 {
				continue
			}
			for _, c := range []term.Config{config(1), config(3), config(4), config(9)} {
				a, b := of(t, storeOf(t, 1, frameOf(d))), of(t, storeOf(t, 1, frameOf(d)))
				if n < d.promised {
					a.wantRefused(t, prepare(n), api.ErrPaxosOld)
					b.wantRefused(t, accept(n, c), api.ErrPaxosOld)
					continue
				}
				a.wantTake(t, prepare(n), promise(n, d))
				a.wantSafe(t, state{n, d.accepted, d.config})
				b.wantTake(t, accept(n, c), accepted(n))
				b.wantSafe(t, state{n, n, c})
				if frames := len(a.s.Frames()); frames == 2 != (n > d.promised) {
					t.Fatalf("Prepare %d of %v: %d frames", n, d, frames)
				}
				if frames := len(b.s.Frames()); frames == 1 != sameState(d, state{n, n, c}) {
					t.Fatalf("Accept %d of %v: %d frames", n, d, frames)
				}
			}
		}
	}
}

func TestAnotherConfigurationAtTheSameBallot(t *testing.T) { // P13.1
	a := fresh(t)
	for i, c := range []term.Config{config(1), config(2), config(1)} {
		for range 3 {
			a.wantTake(t, accept(7, c), accepted(7))
			a.wantSafe(t, state{7, 7, c})
			if n := len(a.s.Frames()); n != i+1 {
				t.Fatalf("%d frames, want %d", n, i+1)
			}
		}
	}
	a.wantTake(t, prepare(7), promise(7, state{7, 7, config(1)}))
	a.wantTake(t, prepare(8), promise(8, state{8, 7, config(1)}))
	a.wantRefused(t, accept(7, config(1)), api.ErrPaxosOld) // though it had accepted that
}

func TestWhoIsTold(t *testing.T) { // P13.1
	for id := range api.MaxNodes {
		for from := range api.MaxNodes { // itself, too
			for _, slot := range []int{1, api.MaxTerms} {
				s := page.New(nil)
				a, _ := NewAcceptor(id, slot, s)
				c := changed(config(1), func(c *term.Config) { c.Term = slot })
				m := message.Message{Kind: message.Accept, From: from, To: id, Term: slot, Ballot: 7, Config: c}
				actor{a, s}.wantTake(t, m, message.Message{Kind: message.Accepted, From: id, To: from, Term: slot, Ballot: 7, Is: true})
				m = message.Message{Kind: message.Prepare, From: from, To: id, Term: slot, Ballot: 8}
				actor{a, s}.wantTake(t, m, message.Message{Kind: message.Promise, From: id, To: from, Term: slot, Ballot: 8, Old: 7, Config: c})
			}
		}
	}
}

func TestTakeOfWhatIsNotAsked(t *testing.T) { // P13.1
	record := api.Record{Id: api.Id{Client: 1, Number: 1}}
	l := []message.Message{
		{}, {Kind: message.Keep, To: me, Term: in, Record: record}, {Kind: message.Kept, To: me, Term: in, Number: 3},
		{Kind: message.Ordered, To: me, Term: in}, {Kind: message.Seal, To: me, Term: in}, {Kind: message.Sealed, To: me, Term: in},
		{Kind: message.Promise, To: me, Term: in, Ballot: 300}, {Kind: message.Promise, To: me, Term: in, Ballot: 300, Old: 1, Config: config(1)},
		{Kind: message.Accepted, To: me, Term: in, Ballot: 300}, {Kind: message.Accepted, To: me, Term: in, Ballot: 300, Is: true},
	}
	for _, wrong := range []func(m *message.Message){
		func(m *message.Message) { m.Kind = 0 }, func(m *message.Message) { m.Kind = 11 }, func(m *message.Message) { m.Kind = -7 },
		func(m *message.Message) { m.To = me + 1 }, func(m *message.Message) { m.To = -1 }, func(m *message.Message) { m.To = api.MaxNodes },
		func(m *message.Message) { m.From = -1 }, func(m *message.Message) { m.From = api.MaxNodes },
		func(m *message.Message) { m.Term = 0 }, func(m *message.Message) { m.Term, m.Config.Term = in+1, in+1 },
		func(m *message.Message) { m.Term = in + 1 }, func(m *message.Message) { m.Term, m.Config.Term = in-1, in-1 },
		func(m *message.Message) { m.Term = in - 1 }, func(m *message.Message) { m.Config.Term++ },
		func(m *message.Message) { m.Ballot = 0 }, func(m *message.Message) { m.Ballot = -1 }, func(m *message.Message) { m.Ballot = 1<<40 + 1 },
		func(m *message.Message) { m.Ballot = math.MaxInt }, func(m *message.Message) { m.Ballot = math.MinInt },
		func(m *message.Message) { m.Is = true }, func(m *message.Message) { m.Old = 1 }, func(m *message.Message) { m.Number = 1 },
		func(m *message.Message) { m.Shard = 1 }, func(m *message.Message) { m.Record = record }, func(m *message.Message) { m.Entry.Kind = 1 },
	} {
		for _, ballot := range []int{1, 300, 301} { // also below what it promised: the answer is the one named first
			l = append(l, changed(prepare(ballot), wrong), changed(accept(ballot, config(2)), wrong))
		}
	}
	for _, c := range wrongConfigs() {
		l = append(l, accept(1, c), accept(300, c), accept(301, c))
	}
	l = append(l, changed(prepare(301), func(m *message.Message) { m.Config = config(1) }))
	for _, d := range []state{{}, {promised: 300}, {300, 300, config(1)}} {
		for _, isOff := range []bool{false, true} {
			a := of(t, storeOf(t, 0, frameOf(d)))
			a.s.Off(isOff)
			for _, m := range l {
				a.wantRefused(t, m, api.ErrArg)
			}
		}
	}
}

func TestWhatIsToldIsSynced(t *testing.T) { // P13.1, P13.4
	for i, d := range states() {
		a := of(t, storeOf(t, 0, frameOf(d)))
		if d.promised > 1 {
			a.wantRefused(t, prepare(d.promised-1), api.ErrPaxosOld) // nothing is synced for that
		}
		a.wantTake(t, prepare(d.promised), promise(d.promised, d)) // needs no frame, but that which it has
		a.wantSafe(t, d)
		if d.accepted == d.promised {
			a = of(t, storeOf(t, 0, frameOf(d)))
			a.wantTake(t, asks()[i], accepted(d.promised))
			a.wantSafe(t, d)
		}
		a.Crash(0)
		a.wantSafe(t, d)
	}
}

func TestAStoreThatIsOff(t *testing.T) { // P13.1, P13.4
	for i, d := range append([]state{{}}, states()...) {
		s := storeOf(t, 0, text(0, 0, nil), frameOf(d))
		s.Sync()
		a := of(t, s)
		s.Off(true)
		for _, n := range []int{d.promised + 1, 1<<40 - 1, 1 << 40} {
			if n > d.promised && n <= 1<<40 {
				a.wantRefused(t, prepare(n), api.ErrPageOff)
				a.wantRefused(t, accept(n, config(9)), api.ErrPageOff)
			}
		}
		if d.promised == 0 {
			continue
		}
		a.wantRefused(t, accept(d.promised, config(9)), api.ErrPageOff)
		a.wantTake(t, prepare(d.promised), promise(d.promised, d)) // this asks the store for no frame
		if d.accepted == d.promised {
			a.wantTake(t, asks()[i-1], accepted(d.promised))
		}
		if d.promised > 1 {
			a.wantRefused(t, prepare(d.promised-1), api.ErrPaxosOld) // ahead of the store's
			a.wantRefused(t, accept(d.promised-1, config(9)), api.ErrPaxosOld)
		}
		if i%2 == 0 {
			s.Off(false)
		} else {
			a.Crash(0) // behind that it is not off
		}
		a.wantSafe(t, d)
		a.wantTake(t, accept(d.promised, config(9)), accepted(d.promised))
		a.wantSafe(t, state{d.promised, d.promised, config(9)})
	}
}

func TestAStoreThatIsFull(t *testing.T) { // P13.1
	for _, m := range []message.Message{prepare(5), prepare(300), accept(5, config(1)), accept(300, config(1))} {
		next := state{promised: m.Ballot}
		if m.Kind == message.Accept {
			next = state{m.Ballot, m.Ballot, config(1)}
		}
		needs := 1 + len(frameOf(next)) + 4
		for room := range 60 {
			first := frameOf(state{promised: 4})
			junk := bytes.Repeat([]byte{255}, api.MaxPage-room-(1+len(first)+4)-(3+4))
			a := of(t, storeOf(t, 1, first, junk))
			if a.s.Len() != api.MaxPage-room {
				t.Fatalf("there is room for %d: this test is wrong", api.MaxPage-a.s.Len())
			}
			if room < needs {
				a.wantRefused(t, m, api.ErrPageFull)
				a.wantTake(t, prepare(4), promise(4, state{}))
				a.wantSafe(t, state{promised: 4})
				continue
			}
			a.wantTake(t, m, toldOf(m, state{}))
			a.wantSafe(t, next)
		}
	}
}

func TestCrashWithEachKeep(t *testing.T) { // P13.1
	frames, at := [][]byte(nil), []int{0} // where each of them ends
	for _, d := range states() {
		b := frameOf(d)
		frames, at = append(frames, b), append(at, at[len(at)-1]+1+len(b)+4)
	}
	for synced := range len(frames) + 1 {
		keeps := []int{math.MinInt, -1, math.MaxInt}
		for keep := range at[len(frames)] - at[synced] + 2 {
			keeps = append(keeps, keep)
		}
		for _, keep := range keeps {
			stay := synced
			for stay < len(frames) && keep >= at[stay+1]-at[synced] {
				stay++
			}
			a := of(t, storeOf(t, synced, frames...))
			for range 2 { // what stayed is synced
				a.Crash(keep)
				a.wantFrames(t, frames[:stay]...)
				a.wantSafe(t, append([]state{{}}, states()...)[stay])
			}
		}
	}
}

func TestAFrameOfAnotherHand(t *testing.T) { // P13.1
	for _, d := range states() {
		other := state{7, 6, config(8)} // less than was promised, but an acceptor's
		a := of(t, storeOf(t, 1, frameOf(d)))
		a.s.Append(frameOf(other))
		a.want(t, d)
		a.Crash(0) // it was not synced
		a.wantSafe(t, d)
		a.s.Append(frameOf(other))
		a.want(t, d)
		a.Crash(math.MaxInt)
		a.wantSafe(t, other)
		for _, wrong := range wrongFrames() {
			a := of(t, storeOf(t, 1, frameOf(d)))
			a.s.Append(wrong)
			a.wantTake(t, prepare(d.promised), promise(d.promised, d))
			a.Crash(0)
			a.wantFrames(t, frameOf(d), wrong)
			a.wantSafe(t, d)
			if d.promised < 1<<40 {
				a.wantTake(t, prepare(d.promised+1), promise(d.promised+1, d)) // what stands behind it counts
				a.Crash(0)
				a.wantSafe(t, state{d.promised + 1, d.accepted, d.config})
			}
		}
	}
}

// model is what an acceptor should have: the states of its frames.
type model struct {
	l      []state
	synced int
	off    bool
}

// now is what it did.
func (w *model) now() state { return append([]state{{}}, w.l...)[len(w.l)] }

// take is what Take of a right Prepare or Accept should tell.
func (w *model) take(m message.Message) (message.Message, api.Errno) {
	had := w.now()
	if m.Ballot < had.promised {
		return message.Message{}, api.ErrPaxosOld
	}
	next := state{m.Ballot, had.accepted, had.config}
	if m.Kind == message.Accept {
		next = state{m.Ballot, m.Ballot, m.Config}
	}
	if !sameState(had, next) {
		if w.off {
			return message.Message{}, api.ErrPageOff
		}
		w.l = append(w.l, next)
	}
	if !w.off {
		w.synced = len(w.l)
	}
	return toldOf(m, had), api.OK
}

// crash leaves the frames that are synced, and those in so many bytes behind them.
func (w *model) crash(keep int) {
	for w.synced < len(w.l) && keep >= 5+len(frameOf(w.l[w.synced])) {
		keep -= 5 + len(frameOf(w.l[w.synced]))
		w.synced++
	}
	w.l, w.off = w.l[:w.synced:w.synced], false
}

func TestScriptsOfAnAcceptor(t *testing.T) { // P13.1, P13.4
	next := rand.New(rand.NewPCG(13, 1))
	for range 300 {
		w := &model{}
		for range next.IntN(5) {
			w.take(prepare(1 + next.IntN(9)))
			w.take(accept(1+next.IntN(9), config(next.IntN(4))))
		}
		w.synced = next.IntN(len(w.l) + 1)
		var frames [][]byte
		for _, d := range w.l {
			frames = append(frames, frameOf(d))
		}
		a := of(t, storeOf(t, w.synced, frames...))
		for range 60 {
			m := prepare(max(1, w.now().promised+next.IntN(6)-2))
			switch next.IntN(12) {
			case 0:
				keep := next.IntN(80) - 10
				a.Crash(keep)
				w.crash(keep)
			case 1:
				w.off = !w.off
				a.s.Off(w.off)
			case 2, 3, 4, 5:
				m = accept(m.Ballot, config(next.IntN(3)))
				fallthrough
			default:
				if want, err := w.take(m); err == api.OK {
					a.wantTake(t, m, want)
				} else {
					a.wantRefused(t, m, err)
				}
			}
			a.want(t, w.now())
			of(t, page.New(a.s.Bytes())).want(t, append([]state{{}}, w.l...)[w.synced])
		}
	}
}
