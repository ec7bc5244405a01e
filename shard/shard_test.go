package shard

import (
	"bytes"
	"maps"
	"math"
	"math/rand/v2"
	"slices"
	"strings"
	"testing"

	"carabiner/api"
	"carabiner/message"
	"carabiner/record"
	"carabiner/term"
)

const me = 3 // the node that most tests are of

// rec is a record of its own for each term, shard and number, some with tags and some without.
func rec(t, shard, n int) api.Record {
	r := api.Record{Id: api.Id{Client: t*10 + shard, Number: n}, Data: strings.Repeat("d", n%7)}
	for tag := range n % (api.MaxTags + 1) {
		r.Tags = append(r.Tags, 1+tag*tag+n)
	}
	return r
}

// recs are the first ones of them.
func recs(t, shard, n int) []api.Record {
	var l []api.Record
	for i := range n {
		l = append(l, rec(t, shard, i))
	}
	return l
}

// config is one of a term with these shards.
func config(t int, shards ...[]int) term.Config {
	return term.Config{Term: t, Sequencers: []int{0, 1, 2}, Shards: shards}
}

// keep is a Keep from the node Client to the node me.
func keep(t, shard, n int, r api.Record) message.Message {
	return message.Message{Kind: message.Keep, From: api.Client, To: me, Term: t, Shard: shard, Number: n, Record: r}
}

// kept is what is told of such a Keep.
func kept(t, shard, n int) message.Message {
	return message.Message{Kind: message.Kept, From: me, To: api.Client, Term: t, Shard: shard, Number: n}
}

// held is what a segment should have.
type held struct {
	all    []api.Record
	trims  []int // up to where, one behind the other
	synced int   // how many of the trims are synced
}

// trimmed is how many of its records are trimmed.
func (h *held) trimmed() int {
	if len(h.trims) == 0 {
		return 0
	}
	return h.trims[len(h.trims)-1]
}

// state is what a node should have: the segments of each term, shard by shard; nil where it serves none.
type state map[int][]*held

// has are the first records of a term's shard, of which so many are trimmed.
func has(t, shard, n, trimmed int) *held {
	h := &held{all: recs(t, shard, n)}
	if trimmed > 0 {
		h.trims = []int{trimmed}
	}
	return h
}

// wantRead fails, if not just that is told of a local number.
func wantRead(t *testing.T, n *Node, in, shard, local int, want api.Record, e api.Errno) {
	t.Helper()
	r, err := n.Read(in, shard, local)
	if err != e || !record.Same(r, want) {
		t.Fatalf("Read(%d, %d, %d) = %v, %d, want %v, %d", in, shard, local, r, err, want, e)
	}
}

// wantHeld fails, if a node does not tell that a shard has just h.
func wantHeld(t *testing.T, n *Node, in, shard int, h *held) {
	t.Helper()
	if h == nil {
		for _, local := range []int{-1, 0, 1} {
			wantRead(t, n, in, shard, local, api.Record{}, api.ErrShardTerm)
		}
		return
	}
	for _, local := range []int{math.MinInt, -1, len(h.all), len(h.all) + 1, math.MaxInt} {
		wantRead(t, n, in, shard, local, api.Record{}, api.ErrSegmentNone)
	}
	for local, r := range h.all {
		if local < h.trimmed() {
			wantRead(t, n, in, shard, local, api.Record{}, api.ErrSegmentGone)
		} else {
			wantRead(t, n, in, shard, local, r, api.OK)
		}
	}
}

// wantNode fails, if a node does not tell that it has just w.
func wantNode(t *testing.T, n *Node, w state) {
	t.Helper()
	if l := n.Terms(); !slices.Equal(l, slices.Sorted(maps.Keys(w))) {
		t.Fatalf("Terms = %v, want %v", l, slices.Sorted(maps.Keys(w)))
	}
	for _, in := range []int{math.MinInt, -1, 0, 1, 2, 3, 4, 5, api.MaxTerms, api.MaxTerms + 1, math.MaxInt} {
		l, serves := w[in]
		var want []int
		for shard, h := range l {
			wantHeld(t, n, in, shard, h)
			want = append(want, 0)
			if h != nil {
				want[shard] = len(h.all)
			}
		}
		if v, is := n.Progress(in); is != serves || !slices.Equal(v, want) {
			t.Fatalf("Progress(%d) = %v, %v, want %v, %v", in, v, is, want, serves)
		}
		for _, shard := range []int{math.MinInt, -1, len(l), api.MaxShards, math.MaxInt} { // there is no such one
			wantHeld(t, n, in, shard, nil)
		}
	}
}

// wantServe fails, if a Serve is not answered so.
func wantServe(t *testing.T, n *Node, c term.Config, want api.Errno) {
	t.Helper()
	if err := n.Serve(c); err != want {
		t.Fatalf("Serve(%v) = %d, want %d", c, err, want)
	}
}

// wantTake fails, if a Take is not answered so.
func wantTake(t *testing.T, n *Node, m, want message.Message) {
	t.Helper()
	if told, err := n.Take(m); err != api.OK || !message.Same(told, want) {
		t.Fatalf("Take(%v) = %v, %d, want %v", m, told, err, want)
	}
}

// wantRefused fails, if a Take is not answered by an error alone.
func wantRefused(t *testing.T, n *Node, m message.Message, want api.Errno) {
	t.Helper()
	if told, err := n.Take(m); err != want || !message.Same(told, message.Message{}) {
		t.Fatalf("Take(%v) = %v, %d, want %d", m, told, err, want)
	}
}

// wantTrim fails, if a Trim is not answered so.
func wantTrim(t *testing.T, n *Node, in int, upto []int, want api.Errno) {
	t.Helper()
	if err := n.Trim(in, upto); err != want {
		t.Fatalf("Trim(%d, %v) = %d, want %d", in, upto, err, want)
	}
}

// fill lets a shard keep its next records, up to so many.
func fill(t *testing.T, n *Node, in, shard, from, upto int) {
	t.Helper()
	for i := from; i < upto; i++ {
		wantTake(t, n, keep(in, shard, i, rec(in, shard, i)), kept(in, shard, i+1))
	}
}

// node is one that serves these.
func node(t *testing.T, id int, l ...term.Config) *Node {
	t.Helper()
	n, err := New(id)
	if err != api.OK || n == nil {
		t.Fatalf("New(%d) = %v, %d", id, n, err)
	}
	for _, c := range l {
		wantServe(t, n, c, api.OK)
	}
	return n
}

// ordinary serves the terms 1 and 4, three shards of the five: what it has is synced.
func ordinary(t *testing.T) (*Node, state) {
	t.Helper()
	n := node(t, me, config(4, []int{me}, []int{me, 5}), config(1, []int{4, me}, []int{5, 6}, []int{me}))
	fill(t, n, 1, 0, 0, 5)
	fill(t, n, 1, 2, 0, 2)
	fill(t, n, 4, 1, 0, 3)
	wantTrim(t, n, 1, []int{2, 0, 0}, api.OK)
	n.Sync()
	return n, state{1: {has(1, 0, 5, 2), nil, has(1, 2, 2, 0)}, 4: {has(4, 0, 0, 0), has(4, 1, 3, 0)}}
}

func TestExamplesOfTheChapter(t *testing.T) { // P10.2, P10.3
	a := api.Record{Id: api.Id{Client: 1, Number: 1}, Data: "a"}
	n := node(t, 3, config(1, []int{3}, []int{4}))
	wantTake(t, n, keep(1, 0, 0, a), kept(1, 0, 1))
	if v, is := n.Progress(1); !is || !slices.Equal(v, []int{1, 0}) {
		t.Errorf("Progress = %v, %v", v, is)
	}
	wantRefused(t, n, keep(1, 0, 5, a), api.ErrShardOrder)
	wantRefused(t, n, keep(1, 1, 0, a), api.ErrShardTerm)
}

func TestNewOfEachNode(t *testing.T) { // P10.1
	for _, id := range []int{math.MinInt, -2, -1, api.MaxNodes, api.MaxNodes + 1, 1 << 40, math.MaxInt} {
		if n, err := New(id); n != nil || err != api.ErrArg {
			t.Errorf("New(%d) = %v, %d", id, n, err)
		}
	}
	for id := range api.MaxNodes { // the first and the last one too
		n := node(t, id)
		wantNode(t, n, state{})
		m := keep(1, 0, 0, rec(1, 0, 0))
		m.To = id
		wantRefused(t, n, m, api.ErrShardTerm)
		wantTrim(t, n, 1, nil, api.ErrShardTerm)
		wantTrim(t, n, 1, []int{0}, api.ErrShardTerm)
		n.Sync()
		n.Crash(0)
		wantNode(t, n, state{})
		wantServe(t, n, config(1, []int{id}), api.OK)
		wantNode(t, n, state{1: {has(1, 0, 0, 0)}})
		want := kept(1, 0, 1)
		want.From = id
		wantTake(t, n, m, want)
		wantNode(t, n, state{1: {has(1, 0, 1, 0)}})
	}
}

func TestServeOfAConfigurationThatIsNotRight(t *testing.T) { // P10.1
	wrong := []term.Config{
		{}, {Term: 1}, config(0, []int{me}), config(-1, []int{me}), config(api.MaxTerms+1, []int{me}), config(math.MaxInt, []int{me}),
		config(2), config(2, nil), config(2, []int{me}, nil), config(2, []int{me, me}), config(2, []int{me, 4, 5, 6}),
		config(2, []int{me}, []int{api.MaxNodes}), config(2, []int{-1, me}), config(2, make([][]int, api.MaxShards+1)...),
		{Term: 2, Shards: [][]int{{me}}}, {Term: 2, Sequencers: []int{0, 1}, Shards: [][]int{{me}}},
		{Term: 2, Sequencers: []int{0, 0, 1}, Shards: [][]int{{me}}}, {Term: 2, Sequencers: []int{api.MaxNodes}, Shards: [][]int{{me}}},
		{Term: 1, Sequencers: []int{0, 1, 2}}, config(1, []int{4, me, me}), // of a term that it serves, too
	}
	for _, c := range wrong {
		n := node(t, me)
		wantServe(t, n, c, api.ErrArg)
		wantNode(t, n, state{})
		n, want := ordinary(t)
		wantServe(t, n, c, api.ErrArg)
		wantNode(t, n, want)
	}
}

func TestServeOnceMore(t *testing.T) { // P10.1
	n, want := ordinary(t)
	c := config(1, []int{4, me}, []int{5, 6}, []int{me})
	for i := range 3 {
		wantServe(t, n, c, api.OK)
		wantNode(t, n, want) // the segments stay
		fill(t, n, 1, 2, 2+i, 3+i)
		want[1][2] = has(1, 2, 3+i, 0)
	}
	n.Crash(0)
	wantServe(t, n, c, api.OK)
	wantNode(t, n, want)
	wantServe(t, n, config(4, []int{me}, []int{me, 5}), api.OK)
	wantNode(t, n, want)
}

func TestServeOfATermByAnotherConfiguration(t *testing.T) { // P10.1
	others := []term.Config{
		config(1, []int{4, me}, []int{5, 6}), config(1, []int{4, me}, []int{5, 6}, []int{me}, []int{me}),
		config(1, []int{me, 4}, []int{5, 6}, []int{me}), config(1, []int{4, me}, []int{5, 6, me}, []int{me}),
		config(1, []int{4, me}, []int{me}, []int{5, 6}), config(1, []int{4, me}, []int{5, 6}, []int{7}), config(1, []int{me}),
		{Term: 1, Sequencers: []int{0, 1, 4}, Shards: [][]int{{4, me}, {5, 6}, {me}}},
		{Term: 1, Sequencers: []int{1, 0, 2}, Shards: [][]int{{4, me}, {5, 6}, {me}}},
		{Term: 1, Sequencers: []int{0}, Shards: [][]int{{4, me}, {5, 6}, {me}}},
	}
	for _, c := range others {
		n, want := ordinary(t)
		wantServe(t, n, c, api.ErrShardTerm)
		wantNode(t, n, want)
		wantTrim(t, n, 1, []int{3, 0, 0}, api.OK) // it has three shards still
		want[1][0] = has(1, 0, 5, 3)
		n.Crash(-1)
		want[1][0] = has(1, 0, 5, 2)
		wantNode(t, n, want)
		c.Term = 2 // of a term that it does not serve any is right
		wantServe(t, n, c, api.OK)
		if !slices.Equal(n.Terms(), []int{1, 2, 4}) {
			t.Fatalf("Terms = %v", n.Terms())
		}
		fill(t, n, 1, 0, 5, 6)
		fill(t, n, 1, 2, 2, 3)
	}
}

func TestTermsInWhateverOrderTheyCame(t *testing.T) { // P10.1
	for _, order := range [][]int{{1, 2, 3}, {3, 2, 1}, {2, 3, 1, 2, 3}, {api.MaxTerms, 1, 5, 4}, {5, api.MaxTerms, 2, api.MaxTerms}, {4}} {
		n := node(t, me)
		w := state{}
		for _, in := range order {
			wantServe(t, n, config(in, []int{me}), api.OK)
			w[in] = []*held{has(in, 0, 0, 0)}
			wantNode(t, n, w)
		}
	}
	n := node(t, me)
	var all []int
	for in := api.MaxTerms; in >= 1; in-- { // so many that the order of a map would be seen
		wantServe(t, n, config(in, []int{4}), api.OK)
		all = append([]int{in}, all...)
		if !slices.Equal(n.Terms(), all) {
			t.Fatalf("Terms = %v", n.Terms())
		}
	}
}

func TestShardsThatHaveTheNode(t *testing.T) { // P10.1, P10.2, P10.3
	for _, shards := range [][][]int{
		{{4}}, {{me}}, {{4}, {5, 6}}, {{4}, {5, me, 6}}, {{me}, {me, 4}, {5, 4, me}}, {{4}, {me}, {5}, {me}, {6}, {7}, {8}, {9, 10, me}},
		{{0}, {1}, {2}}, {{me}, {me}, {me}, {me}, {me}, {me}, {me}, {me}},
	} {
		for _, sequencers := range [][]int{{0, 1, 2}, {me}} { // who orders is nothing to it
			c := term.Config{Term: 2, Sequencers: sequencers, Shards: shards}
			n := node(t, me, c)
			w := state{2: make([]*held, len(shards))}
			for shard, l := range shards {
				if slices.Contains(l, me) {
					w[2][shard] = has(2, shard, 0, 0)
				}
			}
			wantNode(t, n, w)
			for shard, h := range w[2] {
				if h == nil {
					wantRefused(t, n, keep(2, shard, 0, rec(2, shard, 0)), api.ErrShardTerm)
					continue
				}
				fill(t, n, 2, shard, 0, 1+shard)
				w[2][shard] = has(2, shard, 1+shard, 0)
			}
			wantNode(t, n, w)
			n.Crash(0)
			wantNode(t, n, w)
		}
	}
}

func TestTakeOfWhatIsNoKeepToThisNode(t *testing.T) { // P10.2
	right := keep(1, 0, 5, rec(1, 0, 5))
	change := func(f func(m *message.Message)) message.Message {
		m := right
		f(&m)
		return m
	}
	c := config(1, []int{4, me}, []int{5, 6}, []int{me})
	wrong := []message.Message{
		{}, {Kind: message.Keep},
		change(func(m *message.Message) { m.Kind = 0 }), change(func(m *message.Message) { m.Kind = -1 }), change(func(m *message.Message) { m.Kind = 11 }),
		change(func(m *message.Message) { m.Kind = message.Kept }),
		change(func(m *message.Message) { m.From = -1 }), change(func(m *message.Message) { m.From = api.MaxNodes }),
		change(func(m *message.Message) { m.To = me + 1 }), change(func(m *message.Message) { m.To = 0 }), change(func(m *message.Message) { m.To = -1 }),
		change(func(m *message.Message) { m.Term = 0 }), change(func(m *message.Message) { m.Term = api.MaxTerms + 1 }), change(func(m *message.Message) { m.Term = -1 }),
		change(func(m *message.Message) { m.Shard = -1 }), change(func(m *message.Message) { m.Shard = api.MaxShards }),
		change(func(m *message.Message) { m.Number = -1 }), change(func(m *message.Message) { m.Number = api.MaxCount + 1 }),
		change(func(m *message.Message) { m.Is = true }), change(func(m *message.Message) { m.Ballot = 1 }), change(func(m *message.Message) { m.Old = 1 }),
		change(func(m *message.Message) { m.Config = c }), change(func(m *message.Message) { m.Entry.Number = 1 }),
		change(func(m *message.Message) { m.Record.Tags = []int{0} }), change(func(m *message.Message) { m.Record.Tags = []int{2, 2} }),
		change(func(m *message.Message) { m.Record.Id.Number = -1 }), change(func(m *message.Message) { m.Record.Data = strings.Repeat("x", api.MaxData+1) }),
		// right ones, of another kind
		{Kind: message.Kept, From: api.Client, To: me, Term: 1, Number: 5}, {Kind: message.Seal, From: api.Client, To: me, Term: 1},
		{Kind: message.Ordered, From: api.Client, To: me, Term: 1, Number: 5}, {Kind: message.Sealed, From: api.Client, To: me, Term: 1},
		{Kind: message.Prepare, From: api.Client, To: me, Term: 1, Ballot: 1}, {Kind: message.Promise, From: api.Client, To: me, Term: 1, Ballot: 1},
		{Kind: message.Accept, From: api.Client, To: me, Term: 1, Ballot: 1, Config: c}, {Kind: message.Accepted, From: api.Client, To: me, Term: 1, Ballot: 1},
	}
	order := message.Message{Kind: message.Order, From: api.Client, To: me, Term: 1}
	order.Entry.Number, order.Entry.Kind, order.Entry.Cut = 1, 1, []int{1, 0, 0}
	wrong = append(wrong, order)
	for _, m := range wrong {
		n, want := ordinary(t)
		wantRefused(t, n, m, api.ErrArg)
		wantNode(t, n, want)
		wantTrim(t, n, 1, []int{4, 0, 0}, api.OK)
		wantRefused(t, n, m, api.ErrArg)
		n.Crash(0) // no segment was asked: none was synced
		wantNode(t, n, want)
		m.Term, m.Shard = 3, 1 // told ahead of ErrShardTerm
		if !message.Right(m) || m.Kind != message.Keep || m.To != me {
			wantRefused(t, n, m, api.ErrArg)
		}
	}
	n, _ := ordinary(t)
	wantTake(t, n, right, kept(1, 0, 6))
}

func TestTakeOfAShardThatItDoesNotServe(t *testing.T) { // P10.2
	n, want := ordinary(t)
	for _, x := range [][2]int{{2, 0}, {3, 1}, {api.MaxTerms, 0}, {1, 1}, {1, 3}, {1, api.MaxShards - 1}, {4, 2}, {5, 0}} {
		for _, number := range []int{0, 1, 5, api.MaxCount} {
			wantTrim(t, n, 1, []int{4, 0, 0}, api.OK)
			wantRefused(t, n, keep(x[0], x[1], number, rec(1, 0, 0)), api.ErrShardTerm)
			n.Crash(0) // nothing was synced
			wantNode(t, n, want)
		}
	}
}

func TestTakeOfEachNumber(t *testing.T) { // P10.2
	n, want := ordinary(t)
	for range 2 {
		for local := range 5 { // once more
			wantTake(t, n, keep(1, 0, local, rec(1, 0, local)), kept(1, 0, 5))
			other := rec(1, 0, local+20)
			if local < 2 { // of what is trimmed it isn't known any more
				wantTake(t, n, keep(1, 0, local, other), kept(1, 0, 5))
			} else {
				wantRefused(t, n, keep(1, 0, local, other), api.ErrArg)
			}
			wantNode(t, n, want)
		}
		for _, local := range []int{6, 7, api.MaxRecords, api.MaxRecords + 1, api.MaxCount} {
			wantRefused(t, n, keep(1, 0, local, rec(1, 0, 6)), api.ErrShardOrder)
			wantNode(t, n, want)
		}
	}
	fill(t, n, 1, 0, 5, 8)
	want[1][0] = has(1, 0, 8, 2)
	wantNode(t, n, want)
	fill(t, n, 4, 0, 0, 1) // the first one of a shard
	wantRefused(t, n, keep(4, 0, 2, rec(4, 0, 2)), api.ErrShardOrder)
	want[4][0] = has(4, 0, 1, 0)
	wantNode(t, n, want)
	n = node(t, me, config(1, []int{me}))
	wantRefused(t, n, keep(1, 0, 1, rec(1, 0, 1)), api.ErrShardOrder)
	wantTake(t, n, keep(1, 0, 0, api.Record{}), kept(1, 0, 1)) // a record of nothing is right
	wantNode(t, n, state{1: {{all: []api.Record{{}}}}})
}

func TestAnotherRecordByEachOfItsFields(t *testing.T) { // P10.2
	r := api.Record{Id: api.Id{Client: 1, Number: 2}, Tags: []int{3, 4}, Data: "ab"}
	n := node(t, me, config(1, []int{me}))
	wantTake(t, n, keep(1, 0, 0, r), kept(1, 0, 1))
	for _, other := range []api.Record{
		{}, {Id: api.Id{Client: 2, Number: 2}, Tags: r.Tags, Data: r.Data}, {Id: api.Id{Client: 1, Number: 3}, Tags: r.Tags, Data: r.Data},
		{Id: r.Id, Tags: []int{3, 5}, Data: r.Data}, {Id: r.Id, Data: r.Data}, {Id: r.Id, Tags: r.Tags, Data: "ac"}, {Id: r.Id, Tags: r.Tags},
	} {
		wantRefused(t, n, keep(1, 0, 0, other), api.ErrArg)
	}
	wantTake(t, n, keep(1, 0, 0, r), kept(1, 0, 1))
	wantNode(t, n, state{1: {{all: []api.Record{r}}}})
}

func TestWhatAKeptTells(t *testing.T) { // P10.2
	for _, id := range []int{0, 7, api.MaxNodes - 1} {
		for from := range api.MaxNodes { // itself too
			for _, in := range []int{1, 9, api.MaxTerms} {
				n := node(t, id, config(in, []int{8}, []int{id}, []int{6, id, 5}))
				for _, shard := range []int{2, 1} {
					for number := range 3 {
						m := message.Message{Kind: message.Keep, From: from, To: id, Term: in, Shard: shard, Number: number, Record: rec(in, shard, number)}
						want := message.Message{Kind: message.Kept, From: id, To: from, Term: in, Shard: shard, Number: number + 1}
						wantTake(t, n, m, want)
						if !message.Right(want) {
							t.Fatalf("%v is not right", want)
						}
					}
				}
				first := message.Message{Kind: message.Keep, From: from, To: id, Term: in, Shard: 1, Record: rec(in, 1, 0)}
				wantTake(t, n, first, message.Message{Kind: message.Kept, From: id, To: from, Term: in, Shard: 1, Number: 3})
			}
		}
	}
}

func TestWhatIsSyncedBehindTake(t *testing.T) { // P10.2
	same, other := rec(1, 0, 3), rec(1, 0, 33)
	for _, c := range []struct {
		m      message.Message
		want   api.Errno
		synced bool
	}{
		{keep(1, 0, 5, rec(1, 0, 5)), api.OK, true}, {keep(1, 0, 3, same), api.OK, true}, {keep(1, 0, 0, other), api.OK, true},
		{keep(1, 0, 4, other), api.ErrArg, true}, {keep(1, 0, 4, same), api.ErrArg, true},
		{keep(1, 0, 6, other), api.ErrShardOrder, false}, {keep(1, 0, api.MaxCount, other), api.ErrShardOrder, false},
		{keep(1, 1, 0, other), api.ErrShardTerm, false}, {keep(2, 0, 0, other), api.ErrShardTerm, false},
		{keep(1, 0, -1, other), api.ErrArg, false}, {keep(1, 0, 4, api.Record{Tags: []int{0}}), api.ErrArg, false},
	} {
		n, want := ordinary(t)
		wantTrim(t, n, 1, []int{4, 0, 1}, api.OK)
		wantTrim(t, n, 4, []int{0, 3}, api.OK)
		if _, err := n.Take(c.m); err != c.want {
			t.Fatalf("Take(%v) = %d, want %d", c.m, err, c.want)
		}
		n.Crash(0)
		if c.synced {
			want[1][0] = has(1, 0, 5, 4) // of this shard alone: those of others are lost
		}
		if c.want == api.OK && c.m.Number == 5 {
			want[1][0] = has(1, 0, 6, 4)
		}
		wantNode(t, n, want)
	}
}

func TestASegmentOfMaxRecords(t *testing.T) { // P10.2, P10.3
	n := node(t, me, config(1, []int{me}, []int{me}))
	fill(t, n, 1, 1, 0, 1)
	fill(t, n, 1, 0, 0, api.MaxRecords)
	all := api.MaxRecords
	wantTrim(t, n, 1, []int{100, 1}, api.OK)
	wantRefused(t, n, keep(1, 0, all, rec(1, 0, all)), api.ErrSegmentFull)
	wantRefused(t, n, keep(1, 0, all+1, rec(1, 0, all)), api.ErrShardOrder)
	n.Crash(0) // the first shard's Trim was synced, where it was full
	w := state{1: {has(1, 0, all, 100), has(1, 1, 1, 0)}}
	wantNode(t, n, w)
	wantTake(t, n, keep(1, 0, all-1, rec(1, 0, all-1)), kept(1, 0, all))
	wantRefused(t, n, keep(1, 0, all-1, rec(1, 0, 0)), api.ErrArg)
	wantTrim(t, n, 1, []int{all + 1, 0}, api.ErrArg)
	wantTrim(t, n, 1, []int{all, 0}, api.OK)
	wantRefused(t, n, keep(1, 0, all, rec(1, 0, all)), api.ErrSegmentFull)
	fill(t, n, 1, 1, 1, 2) // the other one is not full
	w = state{1: {has(1, 0, all, all), has(1, 1, 2, 0)}}
	wantNode(t, n, w)
}

// big is a record that takes much room.
func big(size int) api.Record { return api.Record{Data: strings.Repeat("b", size)} }

// frame is how many bytes of a store a record takes.
func frame(r api.Record) int {
	b, _ := record.Encode(r)
	size := 1 + len(b) // its kind, and it
	if size < 128 {
		return 1 + size + 4
	}
	return 2 + size + 4
}

// stuff fills a shard, but for so many bytes, and tells what it has then.
func stuff(t *testing.T, n *Node, in, shard, room int) *held {
	t.Helper()
	h := &held{}
	left := api.MaxPage - room
	put := func(r api.Record) {
		t.Helper()
		wantTake(t, n, keep(in, shard, len(h.all), r), kept(in, shard, len(h.all)+1))
		h.all = append(h.all, r)
		left -= frame(r)
	}
	const most, more = 1040, 16 // bytes of the greatest frame, and those in each that are not the data
	for left > 2*most {
		put(big(api.MaxData))
	}
	put(big(left/2 - more)) // the two last ones share what is left
	put(big(left - more))
	if left != 0 {
		t.Fatalf("%d bytes are left", left)
	}
	return h
}

func TestAStoreWithoutRoom(t *testing.T) { // P10.2
	n := node(t, me, config(1, []int{me}, []int{me}))
	w := state{1: {stuff(t, n, 1, 0, 7+13), has(1, 1, 0, 0)}}
	all := len(w[1][0].all)
	wantNode(t, n, w)
	wantTrim(t, n, 1, []int{2, 0}, api.OK)
	wantRefused(t, n, keep(1, 0, all, api.Record{}), api.ErrPageFull) // 14 bytes
	w[1][0].trims = []int{2}
	wantNode(t, n, w)
	n.Crash(0) // the Trim was synced
	wantNode(t, n, w)
	wantTrim(t, n, 1, []int{3, 0}, api.OK)
	wantTrim(t, n, 1, []int{4, 0}, api.ErrPageFull) // 6 bytes are left
	w[1][0].trims = []int{3}
	wantNode(t, n, w)
	wantRefused(t, n, keep(1, 0, all+1, api.Record{}), api.ErrShardOrder)
	wantTake(t, n, keep(1, 0, all-1, w[1][0].all[all-1]), kept(1, 0, all))
	fill(t, n, 1, 1, 0, 3) // a store of its own
	w[1][1] = has(1, 1, 3, 0)
	n.Crash(0)
	wantNode(t, n, w)
}

func TestATrimWhereAStoreHasNoRoom(t *testing.T) { // P10.3
	shards := [][]int{{me}, {me}, {4}, {me}}
	for _, full := range [][]int{{0}, {1}, {3}, {0, 1}, {1, 3}, {0, 3}, {0, 1, 3}} {
		n := node(t, me, config(1, shards...))
		w := state{1: make([]*held, 4)}
		for _, shard := range []int{0, 1, 3} {
			if slices.Contains(full, shard) {
				w[1][shard] = stuff(t, n, 1, shard, 6) // a Trim takes 7
				continue
			}
			fill(t, n, 1, shard, 0, 3)
			w[1][shard] = has(1, shard, 3, 0)
		}
		wantTrim(t, n, 1, []int{0, 0, 5, 0}, api.OK) // asks no store
		wantNode(t, n, w)
		wantTrim(t, n, 1, []int{1, 2, 5, 3}, api.ErrPageFull)
		for shard, upto := range []int{1, 2, 5, 3} {
			if shard < full[0] && w[1][shard] != nil { // what is ahead of the first error is done, and nothing behind it
				w[1][shard].trims = []int{upto}
			}
		}
		wantNode(t, n, w)
	}
}

func TestProgressOfWhatIsServed(t *testing.T) { // P10.3
	n := node(t, me, config(2, []int{4}, []int{me}, []int{me, 5}), config(5, []int{4}))
	for _, in := range []int{math.MinInt, -1, 0, 1, 3, 4, 6, api.MaxTerms, api.MaxTerms + 1, math.MaxInt} {
		if v, is := n.Progress(in); v != nil || is {
			t.Errorf("Progress(%d) = %v, %v", in, v, is)
		}
	}
	check := func(in int, want ...int) {
		t.Helper()
		if v, is := n.Progress(in); !is || !slices.Equal(v, want) {
			t.Errorf("Progress(%d) = %v, %v, want %v", in, v, is, want)
		}
	}
	check(2, 0, 0, 0)
	check(5, 0)
	fill(t, n, 2, 2, 0, 4)
	check(2, 0, 0, 4)
	fill(t, n, 2, 1, 0, 1)
	check(2, 0, 1, 4)
	wantTrim(t, n, 2, []int{0, 1, 3}, api.OK) // what is trimmed counts too
	check(2, 0, 1, 4)
	n.Crash(0)
	check(2, 0, 1, 4)
	check(5, 0)
}

func TestReadOfEachNumber(t *testing.T) { // P10.3
	n, _ := ordinary(t)
	for _, c := range []struct {
		in, shard, local int
		want             api.Errno
	}{
		{1, 0, math.MinInt, api.ErrSegmentNone}, {1, 0, -1, api.ErrSegmentNone}, {1, 0, 0, api.ErrSegmentGone}, {1, 0, 1, api.ErrSegmentGone},
		{1, 0, 2, api.OK}, {1, 0, 4, api.OK}, {1, 0, 5, api.ErrSegmentNone}, {1, 0, math.MaxInt, api.ErrSegmentNone},
		{1, 2, 0, api.OK}, {1, 2, 1, api.OK}, {1, 2, 2, api.ErrSegmentNone}, {4, 0, 0, api.ErrSegmentNone}, {4, 1, 2, api.OK},
		{1, 1, 0, api.ErrShardTerm}, {1, 3, 0, api.ErrShardTerm}, {1, -1, 0, api.ErrShardTerm}, {4, 2, 0, api.ErrShardTerm},
		{2, 0, 0, api.ErrShardTerm}, {0, 0, 0, api.ErrShardTerm}, {-1, 0, 0, api.ErrShardTerm}, {1, 1, -1, api.ErrShardTerm}, {5, 9, -9, api.ErrShardTerm},
	} {
		want := api.Record{}
		if c.want == api.OK {
			want = rec(c.in, c.shard, c.local)
		}
		wantRead(t, n, c.in, c.shard, c.local, want, c.want)
	}
}

func TestTrimOfEachNumber(t *testing.T) { // P10.3
	for a := -1; a <= 6; a++ {
		for b := -1; b <= 4; b++ {
			for c := -1; c <= 3; c++ {
				n, w := ordinary(t)
				if a < 0 || a > 5 || b < 0 || c < 0 || c > 2 {
					wantTrim(t, n, 1, []int{a, b, c}, api.ErrArg)
					wantNode(t, n, w)
					continue
				}
				wantTrim(t, n, 1, []int{a, b, c}, api.OK) // of a shard that it does not serve no number is too great
				w[1][0], w[1][2] = has(1, 0, 5, max(a, 2)), has(1, 2, 2, c)
				wantNode(t, n, w)
				wantTrim(t, n, 1, []int{0, 0, 0}, api.OK) // nothing comes back
				wantNode(t, n, w)
			}
		}
	}
}

func TestTrimThatIsRefused(t *testing.T) { // P10.3
	n, w := ordinary(t)
	for _, in := range []int{math.MinInt, -1, 0, 2, 3, 5, api.MaxTerms, math.MaxInt} {
		for _, upto := range [][]int{nil, {0}, {0, 0, 0}, {-1, 0, 0}, {9, 9, 9}} { // told ahead of ErrArg
			wantTrim(t, n, in, upto, api.ErrShardTerm)
		}
	}
	for _, upto := range [][]int{
		nil, {}, {3}, {3, 0}, {3, 0, 1, 0}, {3, 0, 1, 0, 0, 0, 0, 0, 0}, {-1, 0, 1}, {3, -1, 1}, {3, 0, -1}, {6, 0, 1}, {3, 0, 3},
		{3, 0, math.MaxInt}, {math.MinInt, 0, 1}, {3, math.MinInt, 1}, {3, 0, api.MaxRecords}, {math.MaxInt, 0, 0},
	} {
		wantTrim(t, n, 1, upto, api.ErrArg)
		wantNode(t, n, w) // none of the shards, also where one ahead of the wrong one is right
	}
	wantTrim(t, n, 4, []int{1, 1}, api.ErrArg)
	wantNode(t, n, w)
	wantTrim(t, n, 4, []int{0, 1}, api.OK) // of that term alone
	w[4][1] = has(4, 1, 3, 1)
	wantNode(t, n, w)
	n = node(t, me, config(3, []int{4}, []int{5}))
	wantTrim(t, n, 3, []int{7, 0}, api.OK) // it serves the term, and no shard of it
	wantTrim(t, n, 3, []int{0}, api.ErrArg)
	wantTrim(t, n, 3, []int{0, -1}, api.ErrArg)
	wantNode(t, n, state{3: {nil, nil}})
}

func TestCrashWithEachKeep(t *testing.T) { // P10.3, P10.4
	for keep := -3; keep <= 60; keep++ {
		for _, sync := range []bool{false, true} {
			n, w := ordinary(t)
			wantTrim(t, n, 1, []int{3, 0, 1}, api.OK)
			wantTrim(t, n, 1, []int{5, 0, 1}, api.OK)
			wantTrim(t, n, 1, []int{0, 0, 2}, api.OK)
			wantTrim(t, n, 4, []int{0, 2}, api.OK)
			left := min(max(keep, 0)/7, 3) // of each segment: a Trim takes 7 bytes
			if sync {
				n.Sync()
				left = 3
			}
			n.Crash(keep)
			first := []int{2, 3, 5, 5}
			second := []int{0, 1, 2, 2}
			w[1][0], w[1][2] = has(1, 0, 5, first[left]), has(1, 2, 2, second[left])
			w[4][1] = has(4, 1, 3, min(left, 1)*2)
			wantNode(t, n, w)
			n.Crash(keep) // what stayed is synced
			wantNode(t, n, w)
		}
	}
	for _, keep := range []int{math.MinInt, math.MaxInt} {
		n, w := ordinary(t)
		wantTrim(t, n, 1, []int{5, 0, 2}, api.OK)
		n.Crash(keep)
		if keep > 0 {
			w[1][0], w[1][2] = has(1, 0, 5, 5), has(1, 2, 2, 2)
		}
		wantNode(t, n, w)
		fill(t, n, 1, 0, 5, 6) // it goes on
		n.Crash(0)
		w[1][0].all = recs(1, 0, 6)
		wantNode(t, n, w)
	}
}

func TestWhatWasToldToBeKeptIsThereBehindAnyCrash(t *testing.T) { // P10.4
	for _, lost := range []int{math.MinInt, -1, 0, 1, 7, 13, 20, 1000, math.MaxInt} {
		n := node(t, me, config(1, []int{me}, []int{me}))
		w := state{1: {has(1, 0, 0, 0), has(1, 1, 0, 0)}}
		for i := range 20 {
			for shard := range 2 {
				fill(t, n, 1, shard, i, i+1)
				w[1][shard] = has(1, shard, i+1, 0)
				n.Crash(lost)
				wantNode(t, n, w)
			}
		}
	}
}

func TestTwoNodesOfOneShard(t *testing.T) { // P10.4
	next := rand.New(rand.NewPCG(10, 4))
	c := config(2, []int{me, 4}, []int{4}, []int{4, me, 5})
	nodes := []*Node{node(t, me, c), node(t, 4, c)}
	for range 3000 { // Keeps of either shard, late, doubled or lost, to either node, and crashes
		n, shard := nodes[next.IntN(2)], 2*next.IntN(2)
		v, _ := n.Progress(2)
		number := min(max(0, v[shard]+next.IntN(6)-3), 200)
		m := keep(2, shard, number, rec(2, shard, number))
		m.To = n.id
		n.Take(m)
		if next.IntN(10) == 0 {
			nodes[next.IntN(2)].Crash(next.IntN(40))
		}
	}
	for _, shard := range []int{0, 2} {
		a, _ := nodes[0].Progress(2)
		b, _ := nodes[1].Progress(2)
		both := min(a[shard], b[shard])
		if both < 100 {
			t.Fatalf("the shard %d has %d and %d records", shard, a[shard], b[shard])
		}
		for local := range both {
			for _, n := range nodes {
				wantRead(t, n, 2, shard, local, rec(2, shard, local), api.OK)
			}
		}
	}
}

// serve is what Serve should tell.
func (w state) serve(c term.Config, had map[int]term.Config) api.Errno {
	if !term.Right(c) {
		return api.ErrArg
	}
	if old, is := had[c.Term]; is {
		if term.Same(old, c) {
			return api.OK
		}
		return api.ErrShardTerm
	}
	had[c.Term] = c
	w[c.Term] = make([]*held, len(c.Shards))
	for shard, l := range c.Shards {
		if slices.Contains(l, me) {
			w[c.Term][shard] = &held{}
		}
	}
	return api.OK
}

// take is what Take of a right Keep should tell: how many are kept, and the error.
func (w state) take(m message.Message) (int, api.Errno) {
	l := w[m.Term]
	if m.Shard >= len(l) || l[m.Shard] == nil {
		return 0, api.ErrShardTerm
	}
	h := l[m.Shard]
	if m.Number > len(h.all) {
		return 0, api.ErrShardOrder
	}
	h.synced = len(h.trims)
	if m.Number == len(h.all) {
		h.all = append(h.all, m.Record)
	} else if m.Number >= h.trimmed() && !record.Same(h.all[m.Number], m.Record) {
		return 0, api.ErrArg
	}
	return len(h.all), api.OK
}

// trim is what Trim should tell.
func (w state) trim(in int, upto []int) api.Errno {
	l, is := w[in]
	if !is {
		return api.ErrShardTerm
	}
	if len(upto) != len(l) {
		return api.ErrArg
	}
	for shard, h := range l {
		if upto[shard] < 0 || h != nil && upto[shard] > len(h.all) {
			return api.ErrArg
		}
	}
	for shard, h := range l {
		if h != nil && upto[shard] > h.trimmed() {
			h.trims = append(h.trims, upto[shard])
		}
	}
	return api.OK
}

// crash leaves of each segment the Trims that stand in so many bytes, of 7 each.
func (w state) crash(keep int) {
	for _, l := range w {
		for _, h := range l {
			if h != nil {
				h.trims = h.trims[:min(len(h.trims), h.synced+max(keep, 0)/7)]
				h.synced = len(h.trims)
			}
		}
	}
}

// sync syncs the Trims of each segment.
func (w state) sync() {
	for _, l := range w {
		for _, h := range l {
			if h != nil {
				h.synced = len(h.trims)
			}
		}
	}
}

// anyConfig is some configuration, not always a right one, and not always by the same for one term.
func anyConfig(next *rand.Rand) term.Config {
	t := next.IntN(5)
	c := config(t, []int{me, 4}, []int{5}, []int{me})
	c.Shards = c.Shards[:1+t%3]
	if next.IntN(4) == 0 {
		c.Shards[0] = []int{4}
	}
	return c
}

// anyKeep is some Keep, mostly of the next record of a shard.
func anyKeep(next *rand.Rand, w state) message.Message {
	t, shard := 1+next.IntN(5), next.IntN(4)
	number := 0
	if l := w[t]; shard < len(l) && l[shard] != nil {
		number = len(l[shard].all)
	}
	if next.IntN(3) == 0 {
		number = max(0, number+next.IntN(8)-6)
	}
	return keep(t, shard, number, rec(t, shard, number+next.IntN(8)/7))
}

// anyTrim is some term, and numbers for its shards, mostly right ones.
func anyTrim(next *rand.Rand, w state) (int, []int) {
	t := 1 + next.IntN(5)
	var upto []int
	for _, h := range w[t] {
		most := 3
		if h != nil {
			most = len(h.all)
		}
		upto = append(upto, next.IntN(most+1)+next.IntN(20)/19-next.IntN(20)/19)
	}
	if next.IntN(10) == 0 {
		upto = append(upto, 0)
	}
	return t, upto
}

// step does some call, of a node and of what it should have.
func step(t *testing.T, next *rand.Rand, n *Node, w state, had map[int]term.Config) {
	t.Helper()
	switch next.IntN(12) {
	case 0:
		c := anyConfig(next)
		wantServe(t, n, c, w.serve(c, had))
	case 1:
		n.Sync()
		w.sync()
	case 2:
		lost := next.IntN(30) - 5
		n.Crash(lost)
		w.crash(lost)
	case 3, 4, 5:
		in, upto := anyTrim(next, w)
		wantTrim(t, n, in, upto, w.trim(in, upto))
	default:
		m := anyKeep(next, w)
		if number, err := w.take(m); err == api.OK {
			wantTake(t, n, m, kept(m.Term, m.Shard, number))
		} else {
			wantRefused(t, n, m, err)
		}
	}
}

func TestScripts(t *testing.T) { // P10.1, P10.2, P10.3, P10.4
	next := rand.New(rand.NewPCG(10, 10))
	for range 60 {
		n, w, had := node(t, me), state{}, map[int]term.Config{}
		was := map[int][]int{}
		for range 150 {
			step(t, next, n, w, had)
			wantNode(t, n, w)
			for in := range w {
				v, _ := n.Progress(in)
				for shard, number := range was[in] {
					if v[shard] < number {
						t.Fatalf("Progress(%d) fell from %v to %v", in, was[in], v)
					}
				}
				was[in] = v
			}
		}
	}
}

func TestWhateverComesNothingPanics(t *testing.T) { // R1
	next := rand.New(rand.NewPCG(10, 1))
	n, _ := ordinary(t)
	numbers := []int{math.MinInt, -1, 0, 1, 2, 3, 4, 5, 8, 15, 16, 64, 65, 512, 1 << 40, 1<<40 + 1, math.MaxInt}
	some := func() int { return numbers[next.IntN(len(numbers))] }
	row := func() []int {
		var l []int
		for range next.IntN(5) {
			l = append(l, some())
		}
		return l
	}
	for range 20000 {
		c := term.Config{Term: some(), Sequencers: row(), Shards: [][]int{row(), row()}[:next.IntN(3)]}
		n.Serve(c)
		m := message.Message{Kind: 1 + next.IntN(2), From: 1, To: me, Term: some(), Shard: some(), Number: some(), Is: next.IntN(9) == 0}
		m.Record = api.Record{Id: api.Id{Client: some(), Number: 1}, Tags: row(), Data: "x"}
		told, err := n.Take(m)
		if (err == api.OK) != message.Right(told) {
			t.Fatalf("Take(%v) = %v, %d", m, told, err)
		}
		in, shard := some(), some()
		n.Progress(in)
		if r, err := n.Read(in, shard, some()); err != api.OK && !record.Same(r, api.Record{}) {
			t.Fatalf("Read = %v, %d", r, err)
		}
		n.Trim(in, row())
		if next.IntN(20) == 0 {
			n.Sync()
			n.Crash(some())
		}
	}
}

func TestTheSameCallsTellTheSame(t *testing.T) { // R7
	one, _ := ordinary(t)
	other, _ := ordinary(t)
	told := func(n *Node) []byte {
		next := rand.New(rand.NewPCG(7, 7))
		var b []byte
		for range 300 {
			in := 1 + next.IntN(4)
			m, err := n.Take(keep(in, next.IntN(3), next.IntN(8), rec(in, 0, next.IntN(3))))
			text, _ := message.Encode(m)
			b = append(append(b, text...), byte(err), byte(n.Trim(in, []int{next.IntN(3), next.IntN(3)})))
			if next.IntN(20) == 0 {
				n.Crash(next.IntN(30))
			}
		}
		return b
	}
	if !bytes.Equal(told(one), told(other)) {
		t.Error("two nodes are unlike")
	}
}

func TestAConfigurationThatIsHandedInStaysAndIsNotKept(t *testing.T) { // R5, R6
	n := node(t, me)
	c := config(1, []int{4, me}, []int{5, 6}, []int{me})
	wantServe(t, n, c, api.OK)
	if !term.Same(c, config(1, []int{4, me}, []int{5, 6}, []int{me})) {
		t.Error("the configuration is another one now")
	}
	fill(t, n, 1, 0, 0, 1)
	changed := c // shares its lists
	changed.Sequencers[0], changed.Shards[0][1], changed.Shards[1][0] = 9, 7, me
	changed.Shards[2] = []int{8}
	w := state{1: {has(1, 0, 1, 0), nil, has(1, 2, 0, 0)}}
	wantNode(t, n, w)
	wantServe(t, n, changed, api.ErrShardTerm)
	wantServe(t, n, config(1, []int{4, me}, []int{5, 6}, []int{me}), api.OK)
	n.Crash(0)
	wantNode(t, n, w)
	wantRefused(t, n, keep(1, 1, 0, rec(1, 1, 0)), api.ErrShardTerm)
	fill(t, n, 1, 2, 0, 1)
}

func TestARecordThatIsHandedInStaysAndIsNotKept(t *testing.T) { // R5, R6
	n := node(t, me, config(1, []int{me}))
	tags := []int{3, 4, 9}
	r := api.Record{Tags: tags[:2], Data: "ab"}
	wantTake(t, n, keep(1, 0, 0, r), kept(1, 0, 1))
	if !slices.Equal(tags, []int{3, 4, 9}) {
		t.Error("tags are other ones now")
	}
	tags[0], tags[1] = 1, 2
	wantNode(t, n, state{1: {{all: []api.Record{{Tags: []int{3, 4}, Data: "ab"}}}}})
}

func TestNumbersThatAreHandedInStayAndAreNotKept(t *testing.T) { // R5, R6
	n, w := ordinary(t)
	upto := []int{3, 0, 1, 77}
	wantTrim(t, n, 1, upto[:3], api.OK)
	if !slices.Equal(upto, []int{3, 0, 1, 77}) {
		t.Error("the numbers are other ones now")
	}
	upto[0], upto[2] = 5, 2
	w[1][0], w[1][2] = has(1, 0, 5, 3), has(1, 2, 2, 1)
	wantNode(t, n, w)
	n.Sync()
	n.Crash(0)
	wantNode(t, n, w)
}

func TestWhatIsToldIsTheCallersOwn(t *testing.T) { // R6
	n, w := ordinary(t)
	terms, again := n.Terms(), n.Terms()
	v, other := func() ([]int, []int) {
		a, _ := n.Progress(1)
		b, _ := n.Progress(1)
		return a, b
	}()
	r, _ := n.Read(1, 0, 4)
	second, _ := n.Read(1, 0, 4)
	terms[0], v[0], v[1], r.Tags[0] = 9, 99, 98, 1000
	_ = append(terms[:1], 7)
	_ = append(v[:1], 7)
	_ = append(r.Tags[:1], 7)
	if !slices.Equal(again, []int{1, 4}) || !slices.Equal(other, []int{5, 0, 2}) || !record.Same(second, rec(1, 0, 4)) {
		t.Error("two answers share")
	}
	wantNode(t, n, w)
	n.Crash(0)
	wantNode(t, n, w)
	held, _ := n.Progress(1)
	fill(t, n, 1, 0, 5, 6)
	if !slices.Equal(held, []int{5, 0, 2}) {
		t.Error("what was told is other numbers now")
	}
}
