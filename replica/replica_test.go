package replica

import (
	"bytes"
	"encoding/binary"
	"hash/crc32"
	"math"
	"math/rand/v2"
	"slices"
	"testing"

	"carabiner/api"
	"carabiner/entry"
	"carabiner/message"
	"carabiner/page"
	"carabiner/term"
)

const (
	me = 2 // the node that most tests are of
	in = 3 // the term that most tests are of
)

// config is that of most tests.
func config() term.Config {
	return term.Config{Term: in, Sequencers: []int{0, 1, me}, Shards: [][]int{{3, 4}, {4}}}
}

// aCut is an entry of Kind 1, aTrim one of Kind 2.
func aCut(number int, v ...int) entry.Entry { return entry.Entry{Number: number, Kind: 1, Cut: v} }

func aTrim(number, tag, term, pos int) entry.Entry {
	return entry.Entry{Number: number, Kind: 2, Tag: tag, Upto: api.Seq{Term: term, Pos: pos}}
}

// chain is an ordinary one, of cuts and trims; the third cut is that of the second one.
func chain() []entry.Entry {
	return []entry.Entry{aCut(1, 1, 0), aTrim(2, 5, 1, 9), aCut(3, 3, 2), aCut(4, 3, 2), aTrim(5, 0, in, 0), aCut(6, 3, 200)}
}

// order and seal are messages of the node Client to the node me; ordered and sealed what is told of these.
func order(e entry.Entry) message.Message {
	return message.Message{Kind: message.Order, From: api.Client, To: me, Term: in, Entry: e}
}

func seal() message.Message {
	return message.Message{Kind: message.Seal, From: api.Client, To: me, Term: in}
}

func ordered(n int, is bool) message.Message {
	return message.Message{Kind: message.Ordered, From: me, To: api.Client, Term: in, Number: n, Is: is}
}

func sealed(n int) message.Message {
	return message.Message{Kind: message.Sealed, From: me, To: api.Client, Term: in, Number: n, Is: true}
}

// sum is b with its sum behind it.
func sum(b ...byte) []byte {
	return binary.LittleEndian.AppendUint32(bytes.Clone(b), crc32.ChecksumIEEE(b))
}

// frame is one of few bytes, as a store has it.
func frame(b []byte) []byte { return sum(append([]byte{byte(len(b))}, b...)...) }

// texts are what the frames of these entries have, and of the seal.
func texts(l []entry.Entry, isSealed bool) [][]byte {
	var out [][]byte
	for _, e := range l {
		b, _ := entry.Encode(e)
		out = append(out, b)
	}
	if isSealed {
		out = append(out, []byte{0})
	}
	return out
}

// storeOf is a store with frames of these, of which so many are synced.
func storeOf(t *testing.T, synced int, l ...[]byte) *page.Store {
	t.Helper()
	s := page.New(nil)
	for i, b := range l {
		if i == synced {
			s.Sync()
		}
		if _, err := s.Append(b); err != api.OK {
			t.Fatalf("Append of the frame %d: %d", i, err)
		}
	}
	if synced >= len(l) {
		s.Sync()
	}
	return s
}

// fresh is a replica without entries.
func fresh(t *testing.T) *Replica {
	t.Helper()
	r, err := New(me, config())
	if err != api.OK || r == nil {
		t.Fatalf("New = %v, %d", r, err)
	}
	return r
}

// reopened is that of a store.
func reopened(t *testing.T, s *page.Store) *Replica {
	t.Helper()
	r, err := Reopen(me, config(), s)
	if err != api.OK || r == nil {
		t.Fatalf("Reopen = %v, %d", r, err)
	}
	return r
}

// ordinary has the ordinary chain, sealed or not.
func ordinary(t *testing.T, isSealed bool) *Replica {
	t.Helper()
	r := fresh(t)
	for i, e := range chain() {
		wantTake(t, r, order(e), ordered(i+1, false))
	}
	if isSealed {
		wantTake(t, r, seal(), sealed(len(chain())))
	}
	return r
}

// wantReplica fails, if a replica does not tell that it has just this.
func wantReplica(t *testing.T, r *Replica, l []entry.Entry, isSealed bool) {
	t.Helper()
	if got := r.Entries(); !slices.EqualFunc(got, l, entry.Same) {
		t.Fatalf("Entries = %v, want %v", got, l)
	}
	if r.Len() != len(l) || r.Sealed() != isSealed {
		t.Fatalf("Len = %d, Sealed = %v, want %d, %v", r.Len(), r.Sealed(), len(l), isSealed)
	}
}

// wantStore fails, if a replica, or its store, does not have just this.
func wantStore(t *testing.T, r *Replica, l []entry.Entry, isSealed bool) {
	t.Helper()
	wantReplica(t, r, l, isSealed)
	if got, want := r.Store().Frames(), texts(l, isSealed); !slices.EqualFunc(got, want, bytes.Equal) {
		t.Fatalf("Frames = %x, want %x", got, want)
	}
}

// wantSafe fails, if that is not synced, too.
func wantSafe(t *testing.T, r *Replica, l []entry.Entry, isSealed bool) {
	t.Helper()
	wantStore(t, r, l, isSealed)
	if s := r.Store(); s.Synced() != s.Len() {
		t.Fatalf("of %d bytes %d are synced", s.Len(), s.Synced())
	}
	wantReplica(t, reopened(t, page.New(r.Store().Bytes())), l, isSealed)
}

// wantTake fails, if a Take is not answered so.
func wantTake(t *testing.T, r *Replica, m, want message.Message) {
	t.Helper()
	if told, err := r.Take(m); err != api.OK || !message.Same(told, want) || !message.Right(told) {
		t.Fatalf("Take(%v) = %v, %d, want %v", m, told, err, want)
	}
}

// wantRefused fails, if a Take is not answered by an error alone.
func wantRefused(t *testing.T, r *Replica, m message.Message, want api.Errno) {
	t.Helper()
	if told, err := r.Take(m); err != want || !message.Same(told, message.Message{}) {
		t.Fatalf("Take(%v) = %v, %d, want %d", m, told, err, want)
	}
}

// wantNone fails, if New and Reopen do not refuse.
func wantNone(t *testing.T, id int, c term.Config) {
	t.Helper()
	if r, err := New(id, c); r != nil || err != api.ErrArg {
		t.Errorf("New(%d, %v) = %v, %d", id, c, r, err)
	}
	for _, s := range []*page.Store{page.New(nil), storeOf(t, 0, texts(chain(), true)...)} {
		if r, err := Reopen(id, c, s); r != nil || err != api.ErrArg {
			t.Errorf("Reopen(%d, %v) = %v, %d", id, c, r, err)
		}
	}
}

func TestExamplesOfTheChapter(t *testing.T) { // P11.1, P11.2
	r, err := New(0, term.Config{Term: in, Sequencers: []int{0, 1, 2}, Shards: [][]int{{3}}})
	if err != api.OK {
		t.Fatal(err)
	}
	to := func(m message.Message) message.Message { m.To = 0; return m }
	of := func(m message.Message) message.Message { m.From = 0; return m }
	wantTake(t, r, to(order(aCut(1, 4))), of(ordered(1, false)))
	wantRefused(t, r, to(order(aCut(3, 4))), api.ErrReplicaGap)
	wantTake(t, r, to(seal()), of(sealed(1)))
	wantRefused(t, r, to(order(aCut(2, 4))), api.ErrReplicaSealed)
	wantTake(t, r, to(order(aCut(1, 4))), of(ordered(1, true)))
}

func TestNewOfEachSequencer(t *testing.T) { // P11.1
	all := []int{9, 0, api.MaxNodes - 1, 4, 7, 1, 12}
	for n := 1; n <= api.MaxReplicas; n += 2 {
		for _, number := range []int{1, 7, api.MaxTerms} {
			c := term.Config{Term: number, Sequencers: all[:n], Shards: [][]int{{2, 4, 9}, {5}}}
			for id := -1; id <= api.MaxNodes; id++ { // those that keep, too
				if !slices.Contains(all[:n], id) {
					wantNone(t, id, c)
					continue
				}
				r, err := New(id, c)
				if err != api.OK || r == nil {
					t.Fatalf("New(%d, %v) = %v, %d", id, c, r, err)
				}
				wantSafe(t, r, nil, false)
				m := message.Message{Kind: message.Order, From: 5, To: id, Term: number, Entry: aCut(1, 1, 1)}
				wantTake(t, r, m, message.Message{Kind: message.Ordered, From: id, To: 5, Term: number, Number: 1})
				again, err := Reopen(id, c, r.Store())
				if err != api.OK {
					t.Fatalf("Reopen(%d, %v) = %d", id, c, err)
				}
				wantReplica(t, again, []entry.Entry{aCut(1, 1, 1)}, false)
			}
			for _, id := range []int{math.MinInt, -2, 3, 17, 1 << 40, math.MaxInt} {
				wantNone(t, id, c)
			}
		}
	}
}

func TestNewOfAConfigurationThatIsNotRight(t *testing.T) { // P11.1
	change := func(f func(c *term.Config)) term.Config {
		c := config()
		f(&c)
		return c
	}
	for _, c := range []term.Config{
		{},
		change(func(c *term.Config) { c.Term = 0 }), change(func(c *term.Config) { c.Term = -1 }),
		change(func(c *term.Config) { c.Term = api.MaxTerms + 1 }), change(func(c *term.Config) { c.Term = math.MaxInt }),
		change(func(c *term.Config) { c.Sequencers = nil }), change(func(c *term.Config) { c.Sequencers = []int{0, me} }),
		change(func(c *term.Config) { c.Sequencers = []int{me, me, 0} }), change(func(c *term.Config) { c.Sequencers = []int{me, -1, 0} }),
		change(func(c *term.Config) { c.Sequencers = []int{me, api.MaxNodes, 0} }),
		change(func(c *term.Config) { c.Sequencers = []int{0, 1, me, 3, 4, 5, 6, 7, 8} }),
		change(func(c *term.Config) { c.Shards = nil }), change(func(c *term.Config) { c.Shards = [][]int{{3}, nil} }),
		change(func(c *term.Config) { c.Shards = [][]int{{3, 3}} }), change(func(c *term.Config) { c.Shards = [][]int{{3, api.MaxNodes}} }),
		change(func(c *term.Config) { c.Shards = [][]int{{3, 4, 5, 6}} }), change(func(c *term.Config) { c.Shards = make([][]int, 9) }),
	} {
		for _, id := range []int{-1, 0, me, api.MaxNodes} {
			wantNone(t, id, c)
		}
	}
}

func TestReopenOfEachBeginning(t *testing.T) { // P11.1
	for n := range len(chain()) + 1 {
		l := chain()[:n]
		for _, isSealed := range []bool{false, true} { // the seal alone, too
			frames := texts(l, isSealed)
			for synced := range len(frames) + 1 {
				s := storeOf(t, synced, frames...)
				had := []int{s.Len(), s.Synced()}
				r := reopened(t, s)
				wantStore(t, r, l, isSealed)
				if r.Store() != s {
					t.Fatal("its store is another one")
				}
				if !slices.Equal(had, []int{s.Len(), s.Synced()}) {
					t.Fatalf("the store has %d bytes, %d synced, and had %v", s.Len(), s.Synced(), had)
				}
				if isSealed {
					wantRefused(t, r, order(aTrim(n+1, 1, 1, 1)), api.ErrReplicaSealed)
					wantTake(t, r, seal(), sealed(n))
					wantSafe(t, r, l, true)
					continue
				}
				e := aTrim(n+1, 1, 1, 1)
				wantTake(t, r, order(e), ordered(n+1, false)) // it goes on
				wantSafe(t, r, append(slices.Clone(l), e), false)
			}
		}
	}
}

func TestReopenOfFramesThatAreWrong(t *testing.T) { // P11.1
	of := func(l ...entry.Entry) [][]byte { return texts(l, false) }
	turned := func(b []byte, at int) []byte { c := bytes.Clone(b); c[at] ^= 255; return c }
	first := of(aCut(1, 3, 2))[0]
	zero := []byte{0}
	wrong := [][][]byte{
		{{}}, {{1}}, {{0, 0}}, {[]byte("junk")}, {sum(0)}, {sum()}, {sum(1, 2)}, {turned(first, 0)}, {turned(first, len(first)-1)}, {first[:len(first)-1]},
		{append(bytes.Clone(first), 0)}, {append([]byte{0}, first...)}, {bytes.Repeat([]byte{0}, 100)},
		{first, {}}, {first, {1}}, {first, {0, 0}}, {first, []byte("junk")}, {{}, first}, {first, {}, of(aCut(2, 3, 2))[0]}, {first, {}, zero}, {{}, zero},
		// entries that are no chain
		of(aCut(2, 3, 2)), of(aTrim(2, 1, 1, 1)), of(aCut(1, 3, 2), aCut(1, 3, 2)), of(aCut(1, 3, 2), aCut(3, 3, 2)), of(aCut(1, 3, 2), aTrim(1, 1, 1, 1)),
		of(aCut(1, 3, 2), aCut(2, 3, 1)), of(aCut(1, 3, 2), aCut(2, 2, 9)), of(aCut(1, 3, 2), aCut(2, 3)), of(aCut(1, 3, 2), aCut(2, 3, 2, 0)),
		of(aCut(1, 3, 2), aTrim(2, 1, 1, 1), aCut(3, 3, 1)), of(aCut(1, 3, 2), aCut(2, 9, 9), aCut(3, 8, 9)), of(aCut(1, 3, 2), aCut(2, 9, 9), aCut(2, 9, 9)),
		append(of(aCut(1, 3, 2), aCut(3, 3, 2)), zero), append(of(aCut(2, 3, 2)), zero),
		// behind the seal
		{zero, zero}, {zero, first}, {first, zero, zero}, {first, zero, first}, {first, zero, of(aCut(2, 3, 2))[0]}, {first, zero, {}}, {zero, {}}, {zero, []byte("junk")},
		{first, zero, of(aCut(2, 3, 2))[0], zero},
	}
	for _, l := range wrong {
		for synced := range len(l) + 1 {
			s := storeOf(t, synced, l...)
			had := s.Bytes()
			if r, err := Reopen(me, config(), s); r != nil || err != api.ErrArg {
				t.Errorf("Reopen of %x = %v, %d", l, r, err)
			}
			if !bytes.Equal(s.Bytes(), had) || !slices.EqualFunc(s.Frames(), l, bytes.Equal) {
				t.Errorf("the store of %x is another one now", l)
			}
		}
	}
}

func TestBytesOfTheFrames(t *testing.T) { // P11.1, P11.2
	r := fresh(t)
	var want []byte
	for _, c := range []struct {
		m    message.Message
		text []byte
	}{
		{order(aCut(1, 1, 2)), sum(1, 1, 3, 2, 1, 2)}, {order(aTrim(2, 5, 3, 130)), sum(2, 2, 5, 3, 130, 1)},
		{order(aCut(3, 300, 2)), sum(3, 1, 4, 2, 172, 2, 2)}, {seal(), []byte{0}},
	} {
		if _, err := r.Take(c.m); err != api.OK {
			t.Fatalf("Take(%v) = %d", c.m, err)
		}
		want = append(want, frame(c.text)...)
		if b := r.Store().Bytes(); !bytes.Equal(b, want) {
			t.Fatalf("behind Take(%v) the store has %x, want %x", c.m, b, want)
		}
		r.Take(c.m) // once more: no frame more
		if b := r.Store().Bytes(); !bytes.Equal(b, want) || r.Store().Len() != len(want) {
			t.Fatalf("behind Take(%v) once more the store has %x, want %x", c.m, b, want)
		}
	}
	wantReplica(t, reopened(t, page.New(want)), []entry.Entry{aCut(1, 1, 2), aTrim(2, 5, 3, 130), aCut(3, 300, 2)}, true)
}

func TestOrderOfEachNumber(t *testing.T) { // P11.2
	r := fresh(t)
	for n, e := range chain() {
		had := chain()[:n]
		for _, number := range []int{n + 2, n + 3, n + 100, api.MaxCount} {
			above := e
			above.Number = number
			wantRefused(t, r, order(above), api.ErrReplicaGap)
			wantRefused(t, r, order(aCut(number, 0)), api.ErrReplicaGap) // ahead of ErrReplicaOther
			wantSafe(t, r, had, false)
		}
		wantTake(t, r, order(e), ordered(n+1, false))
		wantSafe(t, r, chain()[:n+1], false)
		for _, old := range chain()[:n+1] {
			wantTake(t, r, order(old), ordered(n+1, false)) // once more
			wantSafe(t, r, chain()[:n+1], false)
		}
	}
}

func TestOrderOfAnotherEntryOfANumber(t *testing.T) { // P11.2
	for _, isSealed := range []bool{false, true} {
		r := ordinary(t, isSealed)
		for _, e := range []entry.Entry{
			aCut(1, 1, 1), aCut(1, 0, 0), aCut(1, 1), aCut(1, 1, 0, 0), aCut(1, 0, 1), aTrim(1, 5, 1, 9),
			aTrim(2, 4, 1, 9), aTrim(2, 5, 2, 9), aTrim(2, 5, 1, 8), aTrim(2, 0, 1, 9), aCut(2, 1, 0), aCut(3, 3, 3), aCut(3, 1, 0), aCut(6, 3, 201), aCut(6, 3, 2),
		} {
			wantRefused(t, r, order(e), api.ErrReplicaOther)
			wantSafe(t, r, chain(), isSealed)
		}
		empty := chain()[1]
		empty.Cut = []int{} // as good as none (R3)
		wantTake(t, r, order(empty), ordered(6, isSealed))
		wantSafe(t, r, chain(), isSealed)
	}
}

func TestOrderWithWhichTheEntriesWereNoChain(t *testing.T) { // P11.2, P11.4
	last := []int{3, 200}
	r := ordinary(t, false) // its last entry is a cut
	wantTake(t, r, order(aTrim(7, 1, 1, 1)), ordered(7, false))
	for i, had := range []*Replica{ordinary(t, false), r} {
		n := 6 + i
		for _, v := range [][]int{{2, 200}, {3, 199}, {0, 0}, {4, 199}, {2, 201}, {3}, {1000}, {3, 200, 0}, {9, 900, 9}, make([]int, 8)} {
			l := had.Entries()
			wantRefused(t, had, order(aCut(n+1, v...)), api.ErrReplicaOther)
			wantSafe(t, had, l, false)
		}
		for _, v := range [][]int{last, {4, 200}, {4, 201}, {api.MaxCount, api.MaxCount}} { // the same one, too
			n++
			wantTake(t, had, order(aCut(n, v...)), ordered(n, false))
			wantSafe(t, had, had.Entries(), false)
		}
	}
	for _, v := range [][]int{{0, 0}, {5, 6}, {7}, make([]int, 8)} { // the first cut may be any: the chapter asks for a chain alone
		r := fresh(t)
		wantTake(t, r, order(aTrim(1, 1, 1, 1)), ordered(1, false))
		wantTake(t, r, order(aCut(2, v...)), ordered(2, false))
		wantSafe(t, r, []entry.Entry{aTrim(1, 1, 1, 1), aCut(2, v...)}, false)
	}
}

func TestSealBehindEachNumberOfEntries(t *testing.T) { // P11.2, P11.4
	for n := range len(chain()) + 1 { // ahead of any entry, too
		r, l := fresh(t), chain()[:n]
		for i, e := range l {
			wantTake(t, r, order(e), ordered(i+1, false))
		}
		for range 3 {
			wantTake(t, r, seal(), sealed(n))
			wantSafe(t, r, l, true)
		}
		for _, e := range l {
			wantTake(t, r, order(e), ordered(n, true))
			wantRefused(t, r, order(aCut(e.Number, 7)), api.ErrReplicaOther)
		}
		for _, number := range []int{n + 1, n + 2, n + 9, api.MaxCount} { // the next one, and ahead of ErrReplicaGap and ErrReplicaOther
			wantRefused(t, r, order(aTrim(number, 1, 1, 1)), api.ErrReplicaSealed)
			wantRefused(t, r, order(aCut(number, 3, 200)), api.ErrReplicaSealed)
			wantRefused(t, r, order(aCut(number, 0)), api.ErrReplicaSealed)
		}
		wantSafe(t, r, l, true)
		r.Crash(-1)
		wantSafe(t, r, l, true)
		wantRefused(t, r, order(aTrim(n+1, 1, 1, 1)), api.ErrReplicaSealed)
		wantTake(t, r, seal(), sealed(n))
		wantSafe(t, r, l, true)
	}
}

func TestWhatIsTold(t *testing.T) { // P11.2
	for _, id := range []int{0, 7, api.MaxNodes - 1} {
		for from := range api.MaxNodes { // itself, too
			for _, number := range []int{1, 9, api.MaxTerms} {
				r, err := New(id, term.Config{Term: number, Sequencers: []int{7, 0, api.MaxNodes - 1}, Shards: [][]int{{1}}})
				if err != api.OK {
					t.Fatal(err)
				}
				take := func(kind int, e entry.Entry, told, n int, is bool) {
					t.Helper()
					m := message.Message{Kind: kind, From: from, To: id, Term: number, Entry: e}
					wantTake(t, r, m, message.Message{Kind: told, From: id, To: from, Term: number, Number: n, Is: is})
				}
				take(message.Order, aCut(1, 1), message.Ordered, 1, false)
				take(message.Order, aCut(2, 1), message.Ordered, 2, false)
				take(message.Order, aCut(1, 1), message.Ordered, 2, false)
				take(message.Seal, entry.Entry{}, message.Sealed, 2, true)
				take(message.Seal, entry.Entry{}, message.Sealed, 2, true)
				take(message.Order, aCut(2, 1), message.Ordered, 2, true)
			}
		}
	}
}

// wrongs are messages that are no right Order or Seal to the replica of its term.
func wrongs() []message.Message {
	var l []message.Message
	for _, right := range []message.Message{order(chain()[0]), order(aTrim(7, 1, 1, 1)), order(aCut(7, 3, 200)), seal()} {
		for _, f := range []func(m *message.Message){
			func(m *message.Message) { m.Kind = 0 }, func(m *message.Message) { m.Kind = -1 }, func(m *message.Message) { m.Kind = 11 },
			func(m *message.Message) { m.Kind = message.Ordered }, func(m *message.Message) { m.Kind = message.Sealed }, func(m *message.Message) { m.Kind ^= 6 },
			func(m *message.Message) { m.From = -1 }, func(m *message.Message) { m.From = api.MaxNodes }, func(m *message.Message) { m.From = math.MaxInt },
			func(m *message.Message) { m.To = me + 1 }, func(m *message.Message) { m.To = 0 }, func(m *message.Message) { m.To = -1 }, func(m *message.Message) { m.To = api.MaxNodes },
			func(m *message.Message) { m.Term = in + 1 }, func(m *message.Message) { m.Term = in - 1 }, func(m *message.Message) { m.Term = 0 },
			func(m *message.Message) { m.Term = -1 }, func(m *message.Message) { m.Term = api.MaxTerms + 1 },
			func(m *message.Message) { m.Shard = 1 }, func(m *message.Message) { m.Number = 1 }, func(m *message.Message) { m.Is = true },
			func(m *message.Message) { m.Record.Data = "x" }, func(m *message.Message) { m.Ballot = 1 }, func(m *message.Message) { m.Old = 1 },
			func(m *message.Message) { m.Config = config() },
			func(m *message.Message) { m.Entry.Number = -1 }, func(m *message.Message) { m.Entry.Kind += 3 },
			func(m *message.Message) { m.Entry.Cut = []int{-1} }, func(m *message.Message) { m.Entry.Upto.Pos = -1 }, func(m *message.Message) { m.Entry.Tag = -1 },
			func(m *message.Message) { m.Entry.Number = api.MaxCount + 1 },
		} {
			m := right
			f(&m)
			l = append(l, m)
		}
	}
	return append(l, message.Message{}, order(entry.Entry{}), order(aCut(7)), order(aCut(0, 3, 200)), order(aCut(-1, 3, 200)), order(aTrim(7, 1, 0, 1)),
		// right ones, of another kind
		message.Message{Kind: message.Keep, From: 1, To: me, Term: in}, message.Message{Kind: message.Kept, From: 1, To: me, Term: in, Number: 1},
		message.Message{Kind: message.Ordered, From: 1, To: me, Term: in, Number: 6}, message.Message{Kind: message.Sealed, From: 1, To: me, Term: in, Number: 6, Is: true},
		message.Message{Kind: message.Prepare, From: 1, To: me, Term: in, Ballot: 1}, message.Message{Kind: message.Promise, From: 1, To: me, Term: in, Ballot: 1},
		message.Message{Kind: message.Accept, From: 1, To: me, Term: in, Ballot: 1, Config: config()},
		message.Message{Kind: message.Accepted, From: 1, To: me, Term: in, Ballot: 1, Is: true})
}

func TestTakeOfWhatIsNoOrderOrSealToThisReplica(t *testing.T) { // P11.2
	for _, isSealed := range []bool{false, true} {
		r := ordinary(t, isSealed)
		for _, m := range wrongs() {
			wantRefused(t, r, m, api.ErrArg)
			wantSafe(t, r, chain(), isSealed)
		}
		r.Store().Off(true) // told ahead of the store's error
		for _, m := range wrongs() {
			wantRefused(t, r, m, api.ErrArg)
		}
		wantSafe(t, r, chain(), isSealed)
	}
}

func TestWhatIsSyncedBehindTake(t *testing.T) { // P11.2
	for _, c := range []struct {
		m      message.Message
		sealed bool
		want   api.Errno
	}{
		{order(aCut(7, 3, 201)), false, api.OK}, {order(aTrim(7, 1, 1, 1)), false, api.OK}, {order(chain()[0]), false, api.OK}, {order(chain()[5]), false, api.OK},
		{seal(), false, api.OK}, {seal(), true, api.OK}, {order(chain()[0]), true, api.OK}, {order(chain()[5]), true, api.OK},
		{order(aCut(1, 9, 9)), false, api.ErrReplicaOther}, {order(aCut(6, 3, 201)), true, api.ErrReplicaOther}, {order(aCut(7, 0, 0)), false, api.ErrReplicaOther},
		{order(aCut(8, 3, 201)), false, api.ErrReplicaGap}, {order(aCut(7, 3, 201)), true, api.ErrReplicaSealed}, {order(aCut(8, 3, 201)), true, api.ErrReplicaSealed},
		{message.Message{}, false, api.ErrArg}, {order(aCut(7)), true, api.ErrArg},
	} {
		frames := texts(chain(), c.sealed)
		for synced := range len(frames) {
			s := storeOf(t, synced, frames...)
			had := s.Synced()
			r := reopened(t, s)
			_, err := r.Take(c.m)
			if err != c.want {
				t.Fatalf("Take(%v) = %d, want %d", c.m, err, c.want)
			}
			if err != api.OK && s.Synced() != had || err == api.OK && s.Synced() != s.Len() {
				t.Fatalf("behind Take(%v) %d of %d bytes are synced, and %d were", c.m, s.Synced(), s.Len(), had)
			}
			r.Crash(-1)
			if err != api.OK {
				wantSafe(t, r, chain()[:min(synced, 6)], synced > 6)
				continue
			}
			l := chain()
			if c.m.Entry.Number > 6 {
				l = append(l, c.m.Entry)
			}
			wantSafe(t, r, l, c.sealed || c.m.Kind == message.Seal)
		}
	}
}

// sizedTrim is a trim of a Number of two bytes whose frame takes so many bytes, 15 to 24.
func sizedTrim(number, size int) entry.Entry {
	tag := min(size-15, 4) // how many bytes it has more than one
	pos := size - 15 - tag
	return aTrim(number, 1<<(7*tag), 1, 1<<(7*pos))
}

// fullBut is a replica whose store has room for so many bytes, and its entries.
func fullBut(t *testing.T, room int) (*Replica, []entry.Entry) {
	t.Helper()
	const count = 1 << 37 // six bytes
	r := fresh(t)
	var l []entry.Entry
	add := func(e entry.Entry) {
		l = append(l, e)
		wantTake(t, r, order(e), ordered(len(l), false))
	}
	left := func() int { return api.MaxPage - r.Store().Len() - room }
	for left() > 200 {
		add(aCut(len(l)+1, count, count, count, count, count, count, count, count))
	}
	for left() > 48 {
		add(sizedTrim(len(l)+1, 15))
	}
	half := left() / 2
	add(sizedTrim(len(l)+1, half))
	add(sizedTrim(len(l)+1, left()))
	if left() != 0 {
		t.Fatalf("%d bytes are left, want %d", left()+room, room)
	}
	return r, l
}

func TestAStoreWithoutRoom(t *testing.T) { // P11.2, P11.4
	r, l := fullBut(t, 6) // just for the seal
	n := len(l)
	next := order(aTrim(n+1, 0, 1, 0))
	for range 2 {
		wantRefused(t, r, next, api.ErrPageFull)
		wantSafe(t, r, l, false)
	}
	wantRefused(t, r, order(aTrim(n+2, 0, 1, 0)), api.ErrReplicaGap) // told ahead of the store's error
	wantRefused(t, r, order(aCut(n+1, 0)), api.ErrReplicaOther)
	wantTake(t, r, order(l[n-1]), ordered(n, false)) // this asks the store for no room
	wantTake(t, r, order(l[0]), ordered(n, false))
	r.Crash(-1)
	wantSafe(t, r, l, false)
	wantRefused(t, r, next, api.ErrPageFull)
	wantTake(t, r, seal(), sealed(n))
	wantSafe(t, r, l, true)
	wantRefused(t, r, next, api.ErrReplicaSealed)
	wantTake(t, r, seal(), sealed(n))
	r.Crash(-1)
	wantSafe(t, r, l, true)
}

func TestAStoreWithoutRoomForTheSeal(t *testing.T) { // P11.2, P11.4
	r, l := fullBut(t, 5)
	n := len(l)
	for range 2 {
		wantRefused(t, r, seal(), api.ErrPageFull)
		wantSafe(t, r, l, false)
		wantRefused(t, r, order(aTrim(n+1, 0, 1, 0)), api.ErrPageFull) // not ErrReplicaSealed: it is not
		wantSafe(t, r, l, false)
		wantTake(t, r, order(l[n-1]), ordered(n, false)) // and it tells so
		r.Crash(0)
		wantSafe(t, r, l, false)
	}
}

func TestAStoreThatIsOff(t *testing.T) { // P11.2, P11.4
	for n := range len(chain()) {
		r, l, next := fresh(t), chain()[:n], order(chain()[n])
		for i, e := range l {
			wantTake(t, r, order(e), ordered(i+1, false))
		}
		r.Store().Off(true)
		wantRefused(t, r, next, api.ErrPageOff)
		wantSafe(t, r, l, false)
		wantRefused(t, r, seal(), api.ErrPageOff)
		wantSafe(t, r, l, false)
		wantRefused(t, r, next, api.ErrPageOff) // not ErrReplicaSealed: it is not
		wantRefused(t, r, order(aTrim(n+2, 0, 1, 0)), api.ErrReplicaGap)
		for _, e := range l { // this asks the store for no frame
			wantTake(t, r, order(e), ordered(n, false))
			wantRefused(t, r, order(aCut(e.Number, 7)), api.ErrReplicaOther)
		}
		wantSafe(t, r, l, false)
		if n%2 == 0 {
			r.Store().Off(false)
		} else {
			r.Crash(0) // behind that it is not off
		}
		wantSafe(t, r, l, false)
		wantTake(t, r, next, ordered(n+1, false))
		wantTake(t, r, seal(), sealed(n+1))
		r.Store().Off(true)
		wantTake(t, r, seal(), sealed(n+1))
		wantTake(t, r, next, ordered(n+1, true))
		wantRefused(t, r, order(aTrim(n+2, 0, 1, 0)), api.ErrReplicaSealed)
		wantSafe(t, r, chain()[:n+1], true)
		r.Crash(0)
		wantSafe(t, r, chain()[:n+1], true)
	}
}

func TestCrashWithEachKeep(t *testing.T) { // P11.3
	for _, isSealed := range []bool{false, true} {
		frames := texts(chain(), isSealed)
		for synced := range len(frames) + 1 {
			bytesLeft := storeOf(t, synced, frames...)
			most := bytesLeft.Len() - bytesLeft.Synced()
			for keep := -2; keep <= most+2; keep++ {
				stay, room := synced, max(keep, 0)
				for stay < len(frames) && room >= len(frame(frames[stay])) {
					room -= len(frame(frames[stay]))
					stay++
				}
				r := reopened(t, storeOf(t, synced, frames...))
				for range 2 { // what stayed is synced
					r.Crash(keep)
					wantSafe(t, r, chain()[:min(stay, 6)], stay > 6)
				}
			}
			for keep, all := range map[int]bool{math.MinInt: false, math.MaxInt: true} {
				r, stay := reopened(t, storeOf(t, synced, frames...)), synced
				if all {
					stay = len(frames)
				}
				r.Crash(keep)
				wantSafe(t, r, chain()[:min(stay, 6)], stay > 6)
			}
		}
	}
}

func TestWhatWasLostCanComeAgain(t *testing.T) { // P11.3, P11.4
	r := reopened(t, storeOf(t, 2, texts(chain(), true)...))
	r.Crash(0)
	wantSafe(t, r, chain()[:2], false)
	other := []entry.Entry{chain()[0], chain()[1], aCut(3, 9, 9)} // what nobody was told may be another one now
	wantTake(t, r, order(other[2]), ordered(3, false))
	wantRefused(t, r, order(chain()[2]), api.ErrReplicaOther)
	wantTake(t, r, seal(), sealed(3))
	r.Crash(0)
	wantSafe(t, r, other, true)
}

func TestWhatWasToldIsThereBehindAnyCrash(t *testing.T) { // P11.4
	for _, keep := range []int{math.MinInt, -1, 0, 1, 5, 14, 1000, math.MaxInt} {
		r := fresh(t)
		r.Crash(keep)
		wantSafe(t, r, nil, false)
		for i, e := range chain() {
			wantTake(t, r, order(e), ordered(i+1, false))
			r.Crash(keep)
			wantSafe(t, r, chain()[:i+1], false)
			wantTake(t, r, order(e), ordered(i+1, false))
		}
		wantTake(t, r, seal(), sealed(6))
		r.Crash(keep)
		wantSafe(t, r, chain(), true)
		wantRefused(t, r, order(aTrim(7, 1, 1, 1)), api.ErrReplicaSealed)
	}
}

func TestAFrameOfAnotherHand(t *testing.T) { // P11.1, P11.3, P11.4
	for _, text := range [][]byte{{}, {1}, []byte("junk"), sum(0)} {
		for _, isSealed := range []bool{false, true} {
			r := ordinary(t, isSealed)
			r.Store().Append(text)
			wantReplica(t, r, chain(), isSealed)
			r.Crash(0) // it was not synced
			wantSafe(t, r, chain(), isSealed)
			r.Store().Append(text)
			l := chain()
			if !isSealed {
				l = append(l, aCut(7, 4, 200))
				wantTake(t, r, order(l[6]), ordered(7, false))
			}
			wantTake(t, r, seal(), sealed(len(l)))
			for range 2 { // Reopen would refuse it, but what was told to be ordered and sealed is so
				r.Crash(0)
				wantReplica(t, r, l, true)
			}
			if again, err := Reopen(me, config(), r.Store()); again != nil || err != api.ErrArg {
				t.Fatalf("Reopen = %v, %d", again, err)
			}
		}
	}
	r := ordinary(t, false)
	r.Store().Append([]byte{0}) // a seal, whoever put it there
	r.Crash(math.MaxInt)
	wantSafe(t, r, chain(), true)
}

// world is what a replica should have: the frames of its store, of which the last one may be the seal.
type world struct {
	entries     []entry.Entry
	sealed, off bool
	synced      int // frames
}

// frames are how many there are.
func (w *world) frames() int {
	if w.sealed {
		return len(w.entries) + 1
	}
	return len(w.entries)
}

// take is what Take of a right Order or Seal should tell.
func (w *world) take(m message.Message) (message.Message, api.Errno) {
	n, e := len(w.entries), m.Entry
	fresh := m.Kind == message.Seal && !w.sealed
	if m.Kind == message.Order {
		longer := append(slices.Clone(w.entries), e)
		switch {
		case e.Number <= n && !entry.Same(e, w.entries[e.Number-1]):
			return message.Message{}, api.ErrReplicaOther
		case e.Number <= n:
		case w.sealed:
			return message.Message{}, api.ErrReplicaSealed
		case e.Number != n+1:
			return message.Message{}, api.ErrReplicaGap
		case entry.Chain(longer) != n+1:
			return message.Message{}, api.ErrReplicaOther
		default:
			fresh = true
		}
	}
	if fresh && w.off {
		return message.Message{}, api.ErrPageOff
	}
	if fresh && m.Kind == message.Order {
		w.entries = append(slices.Clone(w.entries), e)
	} else if fresh {
		w.sealed = true
	}
	if !w.off {
		w.synced = w.frames()
	}
	if m.Kind == message.Seal {
		return sealed(len(w.entries)), api.OK
	}
	return ordered(len(w.entries), w.sealed), api.OK
}

// crash leaves the frames that are synced, and those in so many bytes behind them.
func (w *world) crash(keep int) {
	l := texts(w.entries, w.sealed)
	for w.synced < len(l) && keep >= len(frame(l[w.synced])) {
		keep -= len(frame(l[w.synced]))
		w.synced++
	}
	w.off, w.sealed = false, w.sealed && w.synced == len(l)
	w.entries = w.entries[:min(w.synced, len(w.entries))]
}

// anyMessage is an Order, mostly of about the next entry, or seldom a Seal.
func anyMessage(next *rand.Rand, w *world) message.Message {
	if next.IntN(25) == 0 {
		return seal()
	}
	n := len(w.entries) + 1
	if next.IntN(3) == 0 {
		n = max(1, n+next.IntN(6)-3)
	}
	if n < len(w.entries) && next.IntN(3) > 0 {
		return order(w.entries[n-1])
	}
	if next.IntN(4) == 0 {
		return order(aTrim(n, next.IntN(3), 1+next.IntN(2), next.IntN(3)))
	}
	v := entry.Last(w.entries, 2)
	v[next.IntN(2)] += next.IntN(80)
	v[next.IntN(2)] -= min(v[0], v[1], next.IntN(8)/7)
	return order(aCut(n, v...))
}

// anyWorld is one that a store may have: a chain, and its seal, of which some frames are synced.
func anyWorld(next *rand.Rand) *world {
	w := &world{}
	for range next.IntN(12) {
		w.take(anyMessage(next, w))
	}
	w.synced = next.IntN(w.frames() + 1)
	return w
}

func TestScripts(t *testing.T) { // P11.1, P11.2, P11.3, P11.4
	next := rand.New(rand.NewPCG(11, 4))
	for range 400 {
		w := anyWorld(next)
		r := reopened(t, storeOf(t, w.synced, texts(w.entries, w.sealed)...))
		wantStore(t, r, w.entries, w.sealed)
		for range 80 {
			switch next.IntN(12) {
			case 0:
				keep := next.IntN(80) - 10
				r.Crash(keep)
				w.crash(keep)
			case 1:
				w.off = !w.off
				r.Store().Off(w.off)
			default:
				m := anyMessage(next, w)
				if want, err := w.take(m); err == api.OK {
					wantTake(t, r, m, want)
				} else {
					wantRefused(t, r, m, err)
				}
			}
			wantStore(t, r, w.entries, w.sealed)
			if entry.Chain(r.Entries()) != r.Len() {
				t.Fatalf("%v is no chain", r.Entries())
			}
			wantReplica(t, reopened(t, page.New(r.Store().Bytes())), w.entries[:min(w.synced, len(w.entries))], w.synced > len(w.entries))
		}
	}
}

func TestWhateverComesNothingPanics(t *testing.T) { // R1
	next := rand.New(rand.NewPCG(11, 1))
	numbers := []int{math.MinInt, -1, 0, 1, 2, 3, 4, 5, 8, 15, 16, 64, 65, 1 << 40, 1<<40 + 1, math.MaxInt}
	some := func() int { return numbers[next.IntN(len(numbers))] }
	row := func() []int {
		var l []int
		for range next.IntN(4) {
			l = append(l, some())
		}
		return l
	}
	r := fresh(t)
	for range 20000 {
		if n, err := New(some(), term.Config{Term: some(), Sequencers: row(), Shards: [][]int{row(), row()}[:next.IntN(3)]}); (n == nil) != (err == api.ErrArg) {
			t.Fatalf("New = %v, %d", n, err)
		}
		e := entry.Entry{Number: some(), Kind: next.IntN(4), Cut: row(), Tag: some() * next.IntN(2), Upto: api.Seq{Term: some(), Pos: some()}}
		m := message.Message{Kind: 3 + 2*next.IntN(2), From: 1, To: me, Term: in, Entry: e, Number: some() * (next.IntN(9) / 8)}
		told, err := r.Take(m)
		if (err == api.OK) != message.Right(told) {
			t.Fatalf("Take(%v) = %v, %d", m, told, err)
		}
		b := make([]byte, next.IntN(40))
		for i := range b {
			b[i] = byte(next.IntN(6))
		}
		if again, err := Reopen(me, config(), storeOf(t, 0, texts(chain()[:1], false)[0], b)); (again == nil) != (err == api.ErrArg) {
			t.Fatalf("Reopen of %x = %v, %d", b, again, err)
		}
		if next.IntN(50) == 0 {
			r.Crash(some())
			r = fresh(t)
		}
	}
}

func TestTheSameCallsTellTheSame(t *testing.T) { // R7
	told := func() []byte {
		next, w, r := rand.New(rand.NewPCG(7, 7)), &world{}, fresh(t)
		var b []byte
		for range 300 {
			m := anyMessage(next, w)
			w.take(m)
			answer, err := r.Take(m)
			text, _ := message.Encode(answer)
			b = append(append(b, text...), byte(err))
		}
		return append(b, r.Store().Bytes()...)
	}
	if !bytes.Equal(told(), told()) {
		t.Error("two replicas are unlike")
	}
}

func TestWhatIsHandedInStaysAndIsNotKept(t *testing.T) { // R5, R6
	c := config()
	s := storeOf(t, 1, texts([]entry.Entry{aCut(1, 1, 0)}, false)...)
	r, _ := New(me, c)
	again, _ := Reopen(me, c, s)
	if !term.Same(c, config()) {
		t.Error("the configuration is another one now")
	}
	c.Sequencers[2], c.Shards[0][0] = 9, 8 // shares its lists
	c.Term = 1
	for i, r := range []*Replica{r, again} {
		v := []int{3, 4, 9}
		m := order(aCut(1+i, v[:2]...))
		wantTake(t, r, m, ordered(1+i, false))
		if !slices.Equal(v, []int{3, 4, 9}) || !message.Same(m, order(aCut(1+i, 3, 4))) {
			t.Error("the message is another one now")
		}
		v[0], v[1] = 1, 0
		l := []entry.Entry{aCut(1, 1, 0), aCut(2, 3, 4)}
		if i == 0 {
			l = []entry.Entry{aCut(1, 3, 4)}
		}
		wantSafe(t, r, l, false)
		wantTake(t, r, order(l[i]), ordered(1+i, false))
		wantRefused(t, r, order(aCut(2+i, v[:2]...)), api.ErrReplicaOther)
		r.Crash(0)
		wantSafe(t, r, l, false)
	}
}

func TestWhatIsToldIsTheCallersOwn(t *testing.T) { // R6
	for _, r := range []*Replica{ordinary(t, false), reopened(t, storeOf(t, 9, texts(chain(), false)...))} {
		l, again := r.Entries(), r.Entries()
		l[0].Cut[0], l[2].Cut[1], l[1], l[5].Number = 77, 0, entry.Entry{}, 9
		_ = append(l[:1], aTrim(2, 1, 1, 1))
		_ = append(l[0].Cut[:1], 9)
		if !slices.EqualFunc(again, chain(), entry.Same) {
			t.Error("two answers share")
		}
		wantSafe(t, r, chain(), false)
		wantTake(t, r, order(aCut(7, 3, 200)), ordered(7, false)) // its last cut is the same still
		r.Crash(0)
		wantSafe(t, r, append(chain(), aCut(7, 3, 200)), false)
		if !slices.EqualFunc(again, chain(), entry.Same) {
			t.Error("what was told is another one now")
		}
	}
}
