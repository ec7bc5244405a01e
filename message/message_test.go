package message

import (
	"bytes"
	"encoding/binary"
	"hash/crc32"
	"math"
	"math/rand/v2"
	"slices"
	"strings"
	"testing"

	"carabiner/api"
	"carabiner/entry"
	"carabiner/term"
)

const (
	most      = 1 << 40 // of Number, Ballot, Old
	mostTerm  = 64
	mostNode  = 15
	mostShard = 7
)

// aKeep, and those below it, are messages of term 1 from node 0 to node 2 (of a Config's term, if they have one).
func aKeep(shard, number int, r api.Record) Message {
	return Message{Kind: 1, To: 2, Term: 1, Shard: shard, Number: number, Record: r}
}

func aKept(shard, number int) Message {
	return Message{Kind: 2, To: 2, Term: 1, Shard: shard, Number: number}
}

func anOrder(e entry.Entry) Message { return Message{Kind: 3, To: 2, Term: 1, Entry: e} }

func anOrdered(number int, is bool) Message {
	return Message{Kind: 4, To: 2, Term: 1, Number: number, Is: is}
}

func aSeal() Message { return Message{Kind: 5, To: 2, Term: 1} }

func aSealed(number int, is bool) Message {
	return Message{Kind: 6, To: 2, Term: 1, Number: number, Is: is}
}

func aPrepare(ballot int) Message { return Message{Kind: 7, To: 2, Term: 1, Ballot: ballot} }

func aPromise(ballot int) Message { return Message{Kind: 8, To: 2, Term: 1, Ballot: ballot} }

func aPromiseOf(ballot, old int, c term.Config) Message {
	return Message{Kind: 8, To: 2, Term: c.Term, Ballot: ballot, Old: old, Config: c}
}

func anAccept(ballot int, c term.Config) Message {
	return Message{Kind: 9, To: 2, Term: c.Term, Ballot: ballot, Config: c}
}

func anAccepted(ballot int, is bool) Message {
	return Message{Kind: 10, To: 2, Term: 1, Ballot: ballot, Is: is}
}

// aRecord, a full one, a cut, a trim and configurations, to stand in messages.
func aRecord() api.Record {
	return api.Record{Id: api.Id{Client: 3, Number: 300}, Tags: []int{4, 5}, Data: "ab"}
}

func fullRecord() api.Record {
	return api.Record{Id: api.Id{Client: most, Number: most}, Tags: []int{1, 2, 3, 4, 5, 6, 7, 1 << 30}, Data: strings.Repeat("\xff", 1024)}
}

func aCut(number int, v ...int) entry.Entry { return entry.Entry{Number: number, Kind: 1, Cut: v} }

func aTrim(number, tag, term, pos int) entry.Entry {
	return entry.Entry{Number: number, Kind: 2, Tag: tag, Upto: api.Seq{Term: term, Pos: pos}}
}

func small(t int) term.Config {
	return term.Config{Term: t, Sequencers: []int{0}, Shards: [][]int{{0}}}
}

func config(t int) term.Config {
	return term.Config{Term: t, Sequencers: []int{0, 1, 2}, Shards: [][]int{{3, 4}, {4, 5}}}
}

func fullConfig(t int) term.Config {
	return term.Config{Term: t, Sequencers: []int{15, 14, 13, 12, 11, 10, 9}, Shards: slices.Repeat([][]int{{15, 0, 8}}, 8)}
}

// ordinary has one message of each kind, and of a Promise both.
func ordinary() []Message {
	return []Message{
		aKeep(3, 4, aRecord()), aKept(3, 4), anOrder(aCut(3, 4, 5)), anOrdered(4, true), aSeal(), aSealed(4, true),
		aPrepare(5), aPromise(5), aPromiseOf(5, 4, config(1)), anAccept(5, config(1)), anAccepted(5, true),
	}
}

// rights are messages: ordinary ones, and those at the chapter's edges.
func rights() []Message {
	l := ordinary()
	for _, m := range ordinary() {
		for _, n := range []int{0, 1, mostNode - 1, mostNode} {
			m.From = n
			l = append(l, m)
			m.From, m.To = 7, n
			l = append(l, m)
		}
		for _, n := range []int{1, 2, mostTerm - 1, mostTerm} {
			m.Term = n
			if m.Config.Term != 0 {
				m.Config.Term = n
			}
			l = append(l, m)
		}
	}
	for _, n := range []int{0, 1, 127, 128, most - 1, most} {
		l = append(l, aKeep(3, n, aRecord()), aKept(3, n), anOrdered(n, true), anOrdered(n, false), aSealed(n, true), aSealed(n, false))
	}
	for _, n := range []int{1, 2, 127, 128, most - 1, most} {
		l = append(l, aPrepare(n), aPromise(n), aPromiseOf(n, 4, config(1)), aPromiseOf(4, n, config(1)),
			anAccept(n, config(1)), anAccepted(n, true), anAccepted(n, false))
	}
	for _, n := range []int{0, 1, mostShard - 1, mostShard} {
		l = append(l, aKeep(n, 4, aRecord()), aKept(n, 4))
	}
	for _, r := range []api.Record{{}, fullRecord(), {Data: "a"}, {Tags: []int{1}}, {Id: api.Id{Client: 1}}, {Tags: []int{}}} {
		l = append(l, aKeep(0, 0, r), aKeep(7, most, r))
	}
	for _, e := range []entry.Entry{aCut(1, 0), aCut(most, most, 0, 0, 0, 0, 0, 0, most), aTrim(1, 0, 1, 0), aTrim(most, 1<<30, mostTerm, most), aTrim(2, 3, 64, 5)} {
		l = append(l, anOrder(e))
	}
	for _, c := range []term.Config{small(1), small(mostTerm), config(7), fullConfig(mostTerm)} {
		l = append(l, anAccept(1, c), anAccept(most, c), aPromiseOf(1, 1, c), aPromiseOf(most, most, c), aPromiseOf(1, most, c))
	}
	empty := aKept(1, 1) // an empty list is as good as none (R3)
	empty.Record.Tags, empty.Entry.Cut, empty.Config.Sequencers, empty.Config.Shards = []int{}, []int{}, []int{}, [][]int{}
	return append(l, empty)
}

// has tells of each Kind which fields it has, by their first letters: Shard, Number, Is, Record, Entry, Ballot, Old, Config.
func has(kind int) string {
	return []string{"", "SNR", "SN", "E", "NI", "", "NI", "B", "BO", "BC", "BI"}[kind]
}

// more are changes of one field alone, which has the zero value in a message that has it not.
func more() map[string][]func(m *Message) {
	all := map[string][]func(m *Message){
		"I": {func(m *Message) { m.Is = true }},
		"R": {
			func(m *Message) { m.Record = aRecord() }, func(m *Message) { m.Record = api.Record{Data: "a"} },
			func(m *Message) { m.Record = api.Record{Tags: []int{1}} }, func(m *Message) { m.Record = api.Record{Tags: []int{0}} },
			func(m *Message) { m.Record.Id.Client = 1 }, func(m *Message) { m.Record.Id.Number = 1 }, func(m *Message) { m.Record.Id.Number = -1 },
		},
		"E": {
			func(m *Message) { m.Entry = aCut(1, 0) }, func(m *Message) { m.Entry = aTrim(1, 0, 1, 0) }, func(m *Message) { m.Entry.Number = 1 },
			func(m *Message) { m.Entry.Kind = 1 }, func(m *Message) { m.Entry.Cut = []int{0} }, func(m *Message) { m.Entry.Tag = 1 },
			func(m *Message) { m.Entry.Upto.Term = 1 }, func(m *Message) { m.Entry.Upto.Pos = 1 }, func(m *Message) { m.Entry.Tag = -1 },
		},
		"C": {
			func(m *Message) { m.Config = config(m.Term) }, func(m *Message) { m.Config = config(2) }, func(m *Message) { m.Config.Term = 1 },
			func(m *Message) { m.Config.Term = -1 }, func(m *Message) { m.Config.Sequencers = []int{0} },
			func(m *Message) { m.Config.Shards = [][]int{{0}} }, func(m *Message) { m.Config.Shards = [][]int{nil} },
		},
	}
	for _, n := range []int{1, -1, 2, mostShard, most, most + 1, math.MinInt, math.MaxInt} {
		all["S"] = append(all["S"], func(m *Message) { m.Shard = n })
		all["N"] = append(all["N"], func(m *Message) { m.Number = n })
		all["B"] = append(all["B"], func(m *Message) { m.Ballot = n })
		all["O"] = append(all["O"], func(m *Message) { m.Old = n })
	}
	return all
}

// wrongs are no messages, each by one thing alone.
func wrongs() []Message {
	l := []Message{{}}
	with := func(m Message, change func(m *Message)) {
		change(&m)
		l = append(l, m)
	}
	for _, m := range ordinary() {
		for _, n := range []int{0, -1, -5, 11, 12, 16, 255, 261, most, math.MinInt, math.MaxInt} {
			with(m, func(m *Message) { m.Kind = n })
		}
		for _, n := range []int{-1, -mostNode, mostNode + 1, 127, most, math.MinInt, math.MaxInt} {
			with(m, func(m *Message) { m.From = n })
			with(m, func(m *Message) { m.To = n })
		}
		for _, n := range []int{0, -1, -mostTerm, mostTerm + 1, most, math.MinInt, math.MaxInt} {
			with(m, func(m *Message) { m.Term = n })
			if m.Config.Term != 0 {
				with(m, func(m *Message) { m.Term, m.Config.Term = n, n })
			}
		}
		fields := more()
		for _, f := range []string{"S", "N", "I", "R", "E", "B", "O", "C"} {
			for _, change := range fields[f] {
				if !strings.Contains(has(m.Kind), f) && !(f == "C" && m.Kind == 8) {
					with(m, change)
				}
			}
		}
		l = append(l, wrongFields(m)...)
	}
	return l
}

// wrongFields are messages in which one field that m has is not right.
func wrongFields(m Message) []Message {
	var l []Message
	with := func(f string, change func(m *Message)) {
		if strings.Contains(has(m.Kind), f) || f == "C" && m.Config.Term != 0 {
			c := m
			change(&c)
			l = append(l, c)
		}
	}
	for _, n := range []int{-1, -most, most + 1, 1<<62 + 1, math.MinInt, math.MaxInt} {
		with("S", func(m *Message) { m.Shard = n })
		with("N", func(m *Message) { m.Number = n })
		with("B", func(m *Message) { m.Ballot = n })
		with("O", func(m *Message) { m.Old, m.Config = n, config(1) })
		with("O", func(m *Message) { m.Old, m.Config = n, term.Config{} })
	}
	with("S", func(m *Message) { m.Shard = mostShard + 1 })
	with("B", func(m *Message) { m.Ballot = 0 })
	with("O", func(m *Message) { m.Old, m.Config = 0, config(1) })     // a Promise with Old 0 that has a Config
	with("O", func(m *Message) { m.Old, m.Config = 4, term.Config{} }) // and with Old that has none
	with("O", func(m *Message) { m.Old, m.Config = 0, term.Config{Term: 1} })
	with("O", func(m *Message) { m.Old, m.Config = 0, term.Config{Shards: [][]int{{0}}} })
	for _, r := range []api.Record{
		{Id: api.Id{Client: -1}}, {Id: api.Id{Number: most + 1}}, {Tags: []int{0}}, {Tags: []int{2, 1}}, {Tags: []int{1<<30 + 1}},
		{Tags: []int{1, 2, 3, 4, 5, 6, 7, 8, 9}}, {Data: strings.Repeat("a", 1025)},
	} {
		with("R", func(m *Message) { m.Record = r })
	}
	for _, e := range []entry.Entry{{}, aCut(0, 1), aCut(1), aCut(1, -1), aTrim(1, 0, 0, 0), aTrim(1, 0, mostTerm+1, 0), {Number: 1, Kind: 3}, {Number: 1, Kind: 1, Cut: []int{1}, Tag: 1}} {
		with("E", func(m *Message) { m.Entry = e })
	}
	for _, t := range []int{2, 3, mostTerm, mostTerm + 1, 0, -1} { // of another term
		with("C", func(m *Message) { m.Config.Term = t })
	}
	for _, s := range [][]int{nil, {0, 1}, {0, 1, 0}, {16}, {-1}} {
		with("C", func(m *Message) { m.Config.Sequencers = s })
	}
	for _, s := range [][][]int{nil, {nil}, {{0, 1, 2, 3}}, {{1, 1}}, slices.Repeat([][]int{{1}}, 9)} {
		with("C", func(m *Message) { m.Config.Shards = s })
	}
	with("C", func(m *Message) { m.Config = term.Config{} })
	return l
}

// chance tells always the same numbers.
func chance() *rand.Rand { return rand.New(rand.NewPCG(7, 7)) }

// someMessage is a right one.
func someMessage(next *rand.Rand) Message {
	number := func(least int) int { return least + next.IntN([]int{5, 300, most + 1 - least}[next.IntN(3)]) }
	c := term.Config{Term: 1 + next.IntN(mostTerm), Sequencers: next.Perm(16)[:1+2*next.IntN(4)]}
	for range 1 + next.IntN(8) {
		c.Shards = append(c.Shards, next.Perm(16)[:1+next.IntN(3)])
	}
	r := api.Record{Id: api.Id{Client: number(0), Number: number(0)}, Data: strings.Repeat("d", next.IntN(1025))}
	for i := range next.IntN(9) {
		r.Tags = append(r.Tags, 1+i+i*next.IntN(2))
		slices.Sort(r.Tags)
		r.Tags = slices.Compact(r.Tags)
	}
	l := []Message{
		aKeep(next.IntN(8), number(0), r), aKept(next.IntN(8), number(0)),
		anOrder(aCut(number(1), number(0), number(0), number(0))), anOrder(aTrim(number(1), next.IntN(1<<30+1), 1+next.IntN(mostTerm), number(0))),
		anOrdered(number(0), next.IntN(2) == 0), aSeal(), aSealed(number(0), next.IntN(2) == 0), aPrepare(number(1)),
		aPromise(number(1)), aPromiseOf(number(1), number(1), c), anAccept(number(1), c), anAccepted(number(1), next.IntN(2) == 0),
	}
	m := l[next.IntN(len(l))]
	m.From, m.To = next.IntN(16), next.IntN(16)
	if m.Config.Term == 0 {
		m.Term = 1 + next.IntN(mostTerm)
	}
	return m
}

// numbers writes numbers just as pack's chapter tells it.
func numbers(l ...int) string {
	var b []byte
	for _, n := range l {
		b = binary.AppendUvarint(b, uint64(n))
	}
	return string(b)
}

// text writes a text just as pack's chapter tells it.
func text(s string) string { return numbers(len(s)) + s }

// summed is s, and a right sum behind it.
func summed(s string) []byte {
	return binary.LittleEndian.AppendUint32([]byte(s), crc32.ChecksumIEEE([]byte(s)))
}

// recordText, entryText and configText are what the chapters tell of their bytes, as a text; also of those that are not right.
func recordText(r api.Record) string {
	return text(string(summed(numbers(r.Id.Client, r.Id.Number, len(r.Tags)) + numbers(r.Tags...) + text(r.Data))))
}

func entryText(e entry.Entry) string {
	s := numbers(e.Number, e.Kind)
	if e.Kind == 1 {
		s += text(numbers(len(e.Cut)) + numbers(e.Cut...))
	} else {
		s += numbers(e.Tag, e.Upto.Term, e.Upto.Pos)
	}
	return text(string(summed(s)))
}

func configText(c term.Config) string {
	s := numbers(c.Term, len(c.Sequencers)) + numbers(c.Sequencers...) + numbers(len(c.Shards))
	for _, l := range c.Shards {
		s += numbers(len(l)) + numbers(l...)
	}
	return text(string(summed(s)))
}

// yes is a Bool just as pack's chapter tells it.
func yes(is bool) string {
	if is {
		return "\x01"
	}
	return "\x00"
}

// plain is what the chapter tells of a message's bytes, ahead of the sum; also of one that is not right.
func plain(m Message) string {
	s := numbers(m.Kind, m.From, m.To, m.Term)
	switch m.Kind {
	case 1:
		return s + numbers(m.Shard, m.Number) + recordText(m.Record)
	case 2:
		return s + numbers(m.Shard, m.Number)
	case 3:
		return s + entryText(m.Entry)
	case 4, 6:
		return s + numbers(m.Number) + yes(m.Is)
	case 7:
		return s + numbers(m.Ballot)
	case 8:
		if m.Old == 0 {
			return s + numbers(m.Ballot, m.Old)
		}
		return s + numbers(m.Ballot, m.Old) + configText(m.Config)
	case 9:
		return s + numbers(m.Ballot) + configText(m.Config)
	case 10:
		return s + numbers(m.Ballot) + yes(m.Is)
	}
	return s
}

// alike tells whether two messages have the same fields, without asking Same of any layer.
func alike(a, b Message) bool {
	p, q := a.Record, b.Record
	e, f := a.Entry, b.Entry
	c, d := a.Config, b.Config
	return a.Kind == b.Kind && a.From == b.From && a.To == b.To && a.Term == b.Term &&
		a.Shard == b.Shard && a.Number == b.Number && a.Is == b.Is && a.Ballot == b.Ballot && a.Old == b.Old &&
		p.Id == q.Id && slices.Equal(p.Tags, q.Tags) && p.Data == q.Data &&
		e.Number == f.Number && e.Kind == f.Kind && slices.Equal(e.Cut, f.Cut) && e.Tag == f.Tag && e.Upto == f.Upto &&
		c.Term == d.Term && slices.Equal(c.Sequencers, d.Sequencers) && slices.EqualFunc(c.Shards, d.Shards, slices.Equal)
}

// isZero tells whether nothing is in a message.
func isZero(m Message) bool {
	return alike(m, Message{}) && m.Record.Tags == nil && m.Entry.Cut == nil && m.Config.Sequencers == nil && m.Config.Shards == nil
}

// wantMessage fails, if b is not that message.
func wantMessage(t *testing.T, b []byte, want Message) {
	t.Helper()
	if m, err := Decode(b); err != api.OK || !alike(m, want) {
		t.Fatalf("Decode(%x) = %v, %d, want %v", b, m, err, want)
	}
}

// wantRefused fails, if b is a message.
func wantRefused(t *testing.T, b []byte) {
	t.Helper()
	if m, err := Decode(b); err != api.ErrMessageForm || !isZero(m) {
		t.Fatalf("Decode(%x) = %v, %d", b, m, err)
	}
}

func TestKinds(t *testing.T) { // the chapter's kinds
	if got := []int{Keep, Kept, Order, Ordered, Seal, Sealed, Prepare, Promise, Accept, Accepted}; !slices.Equal(got, []int{1, 2, 3, 4, 5, 6, 7, 8, 9, 10}) {
		t.Errorf("the kinds are %v", got)
	}
}

func TestRightMessages(t *testing.T) { // P7.1
	for i, m := range rights() {
		if !Right(m) {
			t.Errorf("%d: %v is not right", i, m)
		}
	}
	for i, m := range wrongs() {
		if Right(m) {
			t.Errorf("%d: %v is right", i, m)
		}
	}
}

func TestOneNumberDecides(t *testing.T) { // P7.1
	for _, n := range []int{math.MinInt, -1, 0, 1, 2, 7, 8, 10, 11, 15, 16, 63, 64, 65, most - 1, most, most + 1, math.MaxInt} {
		for _, m := range ordinary() {
			from, to, at, kind := m, m, m, m
			from.From, to.To, at.Term, kind.Kind = n, n, n, n
			if at.Config.Term != 0 {
				at.Config.Term = n
			}
			if want := n >= 0 && n <= 15; Right(from) != want || Right(to) != want {
				t.Errorf("Kind %d, node %d: want %v", m.Kind, n, want)
			}
			if want := n >= 1 && n <= 64; Right(at) != want {
				t.Errorf("Kind %d, Term %d: want %v", m.Kind, n, want)
			}
			if (n < 1 || n > 10) && Right(kind) {
				t.Errorf("the Kind %d is right", n)
			}
		}
		for _, c := range []struct {
			name string
			want bool
			l    []Message
		}{
			{"Shard", n >= 0 && n <= 7, []Message{aKeep(n, 4, aRecord()), aKept(n, 4)}},
			{"Number", n >= 0 && n <= most, []Message{aKeep(3, n, aRecord()), aKept(3, n), anOrdered(n, true), anOrdered(n, false), aSealed(n, true), aSealed(n, false)}},
			{"Ballot", n >= 1 && n <= most, []Message{aPrepare(n), aPromise(n), aPromiseOf(n, 4, config(1)), anAccept(n, config(1)), anAccepted(n, true), anAccepted(n, false)}},
			{"Old", n >= 1 && n <= most, []Message{aPromiseOf(5, n, config(1)), aPromiseOf(n, n, small(64))}},
			{"Old alone", n == 0, []Message{{Kind: 8, Term: 1, Ballot: 5, Old: n}}},
		} {
			for _, m := range c.l {
				if Right(m) != c.want {
					t.Errorf("%s %d: Right(%v) = %v", c.name, n, m, !c.want)
				}
			}
		}
	}
}

func TestOfWhichKindsOneMayBe(t *testing.T) { // P7.1
	for _, c := range []struct {
		m     Message
		kinds []int // more than one, where fields that are zero may be had or not
	}{
		{aKeep(3, 4, aRecord()), []int{1}}, {aKept(3, 4), []int{1, 2}}, {anOrder(aCut(3, 4, 5)), []int{3}}, {anOrdered(4, true), []int{4, 6}},
		{anOrdered(4, false), []int{1, 2, 4, 6}}, {aSeal(), []int{1, 2, 4, 5, 6}}, {aPrepare(5), []int{7, 8, 10}},
		{aPromiseOf(5, 4, config(1)), []int{8}}, {anAccept(5, config(1)), []int{9}}, {anAccepted(5, true), []int{10}},
	} {
		for kind := -2; kind < 300; kind++ {
			c.m.Kind = kind
			if want := slices.Contains(c.kinds, kind); Right(c.m) != want {
				t.Errorf("Right(%v) = %v", c.m, !want)
			}
		}
	}
}

func TestEachFieldMore(t *testing.T) { // P7.1
	for name, changes := range more() {
		for _, m := range ordinary() {
			if strings.Contains(has(m.Kind), name) || name == "C" && m.Config.Term != 0 {
				continue
			}
			for i, change := range changes {
				c := m
				change(&c)
				if b, err := Encode(c); Right(c) || err != api.ErrMessageForm || len(b) != 0 {
					t.Errorf("Kind %d with %s, %d: %v, %x, %d", m.Kind, name, i, Right(c), b, err)
				}
			}
		}
	}
}

func TestAConfigOfTheSameTerm(t *testing.T) { // P7.1
	for _, at := range []int{1, 2, 63, 64} {
		for _, of := range []int{1, 2, 63, 64} {
			p, a := aPromiseOf(5, 4, config(of)), anAccept(5, config(of))
			p.Term, a.Term = at, at
			if Right(p) != (at == of) || Right(a) != (at == of) {
				t.Errorf("a Config of term %d in a message of term %d: %v, %v", of, at, Right(p), Right(a))
			}
			if at != of {
				wantRefused(t, summed(plain(p)))
				wantRefused(t, summed(plain(a)))
			}
		}
	}
	if e := anOrder(aTrim(1, 0, 64, 0)); !Right(e) { // what is trimmed may be of any term
		t.Error("a trim of another term is refused")
	}
}

func TestEncodeOfKnownMessages(t *testing.T) { // P7.1
	top := "\x80\x80\x80\x80\x80\x20" // 2^40
	seal := aSeal()
	accepted := anAccepted(most, false)
	accepted.From, accepted.To, accepted.Term = 15, 14, 64
	for _, c := range []struct {
		m    Message
		want string
	}{
		{seal, "\x05\x00\x02\x01"},
		{aKept(7, 300), "\x02\x00\x02\x01\x07\xac\x02"}, {aKept(0, 0), "\x02\x00\x02\x01\x00\x00"}, {aKept(0, most), "\x02\x00\x02\x01\x00" + top},
		{aKeep(0, 0, api.Record{}), "\x01\x00\x02\x01\x00\x00\x08" + string(summed("\x00\x00\x00\x00"))},
		{aKeep(1, 2, api.Record{Id: api.Id{Client: 3, Number: 4}, Tags: []int{5, 6}, Data: "ab"}), "\x01\x00\x02\x01\x01\x02\x0c" + string(summed("\x03\x04\x02\x05\x06\x02ab"))},
		{anOrder(aCut(1, 3, 2)), "\x03\x00\x02\x01\x0a" + string(summed("\x01\x01\x03\x02\x03\x02"))},
		{anOrder(aTrim(1, 0, 1, 0)), "\x03\x00\x02\x01\x09" + string(summed("\x01\x02\x00\x01\x00"))},
		{anOrdered(300, true), "\x04\x00\x02\x01\xac\x02\x01"}, {anOrdered(0, false), "\x04\x00\x02\x01\x00\x00"},
		{aSealed(300, true), "\x06\x00\x02\x01\xac\x02\x01"}, {aSealed(most, false), "\x06\x00\x02\x01" + top + "\x00"},
		{aPrepare(1), "\x07\x00\x02\x01\x01"}, {aPrepare(most), "\x07\x00\x02\x01" + top},
		{aPromise(300), "\x08\x00\x02\x01\xac\x02\x00"},
		{aPromiseOf(2, 300, small(1)), "\x08\x00\x02\x01\x02\xac\x02\x0a" + string(summed("\x01\x01\x00\x01\x01\x00"))},
		{anAccept(300, small(64)), "\x09\x00\x02\x40\xac\x02\x0a" + string(summed("\x40\x01\x00\x01\x01\x00"))},
		{anAccepted(1, true), "\x0a\x00\x02\x01\x01\x01"}, {accepted, "\x0a\x0f\x0e\x40" + top + "\x00"},
	} {
		want := summed(c.want)
		if b, err := Encode(c.m); err != api.OK || !bytes.Equal(b, want) {
			t.Errorf("Encode(%v) = %x, %d, want %x", c.m, b, err, want)
		}
		wantMessage(t, want, c.m)
	}
}

func TestTheSumStandsBehindLowestFirst(t *testing.T) { // P7.1
	want := "\x05\x00\x02\x01\x3a\x7d\xab\x53"
	if b, err := Encode(aSeal()); err != api.OK || string(b) != want {
		t.Errorf("Encode of a Seal = %x, %d", b, err)
	}
	wantMessage(t, []byte(want), aSeal())
	wantRefused(t, []byte("\x05\x00\x02\x01\x53\xab\x7d\x3a"))
}

func TestEncodeRefuses(t *testing.T) { // P7.1
	for i, m := range wrongs() {
		if b, err := Encode(m); err != api.ErrMessageForm || len(b) != 0 {
			t.Errorf("%d: Encode(%v) = %x, %d", i, m, b, err)
		}
	}
}

func TestDecodeRefusesAWrongSum(t *testing.T) { // P7.1
	wantRefused(t, nil)
	for _, s := range []string{
		"", "\x00", "\x05", "\x00\x00\x00", "\x00\x00\x00\x00", "\x00\x00\x00\x01", "\x05\x00\x02\x01", // nothing, and fewer bytes than a sum has
		"\x05\x00\x02\x01\x00\x00\x00\x00", "\x05\x00\x02\x01\xff\xff\xff\xff", "\xff", "no message", strings.Repeat("\x80", 100),
	} {
		wantRefused(t, []byte(s))
	}
	for _, m := range rights() {
		s := plain(m)
		b := summed(s)
		wantRefused(t, []byte(s))
		wantRefused(t, append(summed(s), 0))
		wantRefused(t, append([]byte{0}, b...))
		for n := range b { // which ends too soon
			wantRefused(t, b[:n])
		}
	}
}

func TestDecodeRefusesARightSumOfNoMessage(t *testing.T) { // P7.1
	over, top := "\x81\x80\x80\x80\x80\x20", "\xff\xff\xff\xff\xff\xff\xff\xff\x3f" // 2^40 and one more, 2^62 - 1 and more
	for _, s := range []string{
		"", "\x05", "\x05\x00", "\x05\x00\x02", "\x80", "\x05\x80", "\x05\x00\x80", "\x05\x00\x02\x81", // nothing behind, or within
		"\x00\x00\x02\x01", "\x0b\x00\x02\x01", "\x0c\x00\x02\x01", "\x10\x00\x02\x01", // the Kinds 0, 11 and more
		"\x0b\x00\x02\x01\x01\x01", top + "\x00\x02\x01", over + "\x00\x02\x01",
		"\x05\x10\x02\x01", "\x05\x00\x10\x01", "\x05" + top + "\x02\x01", "\x05\x00" + top + "\x01", // nodes: MaxNodes
		"\x05\x00\x02\x00", "\x05\x00\x02\x41", "\x05\x00\x02" + over, // the Terms 0, MaxTerms and one more
		"\x85\x00\x00\x02\x01", "\x05\x80\x00\x02\x01", "\x05\x00\x82\x00\x01", "\x05\x00\x02\x81\x00", // not as short as can be
		"\x02\x00\x02\x01\x80\x00\x01", "\x02\x00\x02\x01\x01\x81\x00", "\x04\x00\x02\x01\x80\x00\x01", "\x07\x00\x02\x01\x81\x00",
		"\x08\x00\x02\x01\x81\x00\x00", "\x08\x00\x02\x01\x01\x80\x00", "\x0a\x00\x02\x01\x81\x00\x01", "\x04\x00\x02\x01\x01\x81\x00",
		"\x02\x00\x02\x01\x08\x01", "\x02\x00\x02\x01\x01" + over, "\x02\x00\x02\x01\x01" + top, "\x02\x00\x02\x01" + top + "\x01", // MaxShards, 2^40 and one more
		"\x04\x00\x02\x01" + over + "\x01", "\x06\x00\x02\x01" + over + "\x00", "\x07\x00\x02\x01" + over, "\x08\x00\x02\x01" + over + "\x00",
		"\x09\x00\x02\x01" + over + configText(config(1)), "\x0a\x00\x02\x01" + over + "\x01", "\x08\x00\x02\x01\x01" + over + configText(config(1)),
		"\x07\x00\x02\x01\x00", "\x08\x00\x02\x01\x00\x00", "\x08\x00\x02\x01\x00\x01" + configText(config(1)), "\x0a\x00\x02\x01\x00\x01", // the Ballot 0
		"\x09\x00\x02\x01\x00" + configText(config(1)),
		"\x04\x00\x02\x01\x01\x02", "\x06\x00\x02\x01\x01\xff", "\x0a\x00\x02\x01\x01\x02", "\x0a\x00\x02\x01\x01\x80", // no Bools
		"\x08\x00\x02\x01\x01\x00" + configText(config(1)),         // an Old 0, and a Config
		"\x08\x00\x02\x01\x01\x01", "\x08\x00\x02\x01\x01\x01\x00", // an Old without one
		"\x05\x00\x02\x01\x00", "\x05\x00\x02\x01\x01\x01", "\x07\x00\x02\x01\x01\x00", // fields of other kinds
		"\x02\x00\x02\x01\x01\x02" + recordText(aRecord()), "\x01\x00\x02\x01\x01\x02", "\x03\x00\x02\x01",
		"no message",
	} {
		wantRefused(t, summed(s))
	}
}

func TestDecodeRefusesAWrongText(t *testing.T) { // P7.1
	keep, order, promise, accept := "\x01\x00\x02\x01\x03\x04", "\x03\x00\x02\x01", "\x08\x00\x02\x01\x05\x04", "\x09\x00\x02\x01\x05"
	r, e, c := recordText(aRecord()), entryText(aCut(3, 4, 5)), configText(config(1))
	wantMessage(t, summed(keep+r), aKeep(3, 4, aRecord()))
	wantMessage(t, summed(order+e), anOrder(aCut(3, 4, 5)))
	wantMessage(t, summed(promise+c), aPromiseOf(5, 4, config(1)))
	wantMessage(t, summed(accept+c), anAccept(5, config(1)))
	for _, k := range []struct{ ahead, own string }{{keep, r}, {order, e}, {promise, c}, {accept, c}} {
		for _, s := range []string{
			"", "\x00", "\x01\x00", "\x04\x00\x00\x00\x00", "\x80", "\x05ab", text("no such text"), text(string(summed(""))), text(string(summed("no such text"))),
			k.own[1:], "\x00" + k.own, k.own + "\x00", text(k.own), text(k.own[1:] + "\x00"), text(k.own[1 : len(k.own)-1]), text(k.own[1 : len(k.own)-4]),
			text(string(summed(k.own[1:]))), numbers(len(k.own)) + k.own[1:], numbers(len(k.own)-2) + k.own[1:],
			string([]byte{k.own[0] | 0x80, 0}) + k.own[1:], // a length that is not written in the shortest way
			numbers(65536) + k.own[1:], numbers(65537) + k.own[1:], text(strings.Repeat("a", 65536)), text(strings.Repeat("a", 65537)),
		} {
			wantRefused(t, summed(k.ahead+s))
		}
		for _, other := range []string{r, e, c} {
			if other != k.own {
				wantRefused(t, summed(k.ahead+other))
			}
		}
		for at := range k.own { // a sum that is wrong within
			b := []byte(k.own)
			b[at] ^= 1
			wantRefused(t, summed(k.ahead+string(b)))
		}
	}
}

func TestDecodeRefusesWhatEncodeRefuses(t *testing.T) { // P7.1
	refused := map[int]int{}
	for _, m := range wrongs() {
		numbers := []int{m.Kind, m.From, m.To, m.Term, m.Shard, m.Number, m.Ballot, m.Old, m.Record.Id.Client, m.Record.Id.Number,
			m.Entry.Number, m.Entry.Kind, m.Entry.Tag, m.Entry.Upto.Term, m.Entry.Upto.Pos, m.Config.Term}
		numbers = slices.Concat(numbers, m.Record.Tags, m.Entry.Cut, m.Config.Sequencers, slices.Concat(m.Config.Shards...))
		if slices.Min(numbers) < 0 || !isOfItsKind(m) {
			continue // there are no bytes of it, or they are those of another one, that may be right
		}
		wantRefused(t, summed(plain(m)))
		refused[m.Kind]++
	}
	for kind := range 12 {
		if refused[kind] < 1 {
			t.Errorf("of Kind %d %d were refused", kind, refused[kind])
		}
	}
}

// isOfItsKind tells whether all fields that m's Kind has not are zero, so that its bytes tell all of it.
func isOfItsKind(m Message) bool {
	l := ""
	if m.Kind >= 0 && m.Kind <= 10 {
		l = has(m.Kind)
	}
	if m.Kind == 8 && m.Old != 0 {
		l += "C"
	}
	for f, clear := range map[string]func(m *Message){
		"S": func(m *Message) { m.Shard = 0 }, "N": func(m *Message) { m.Number = 0 }, "I": func(m *Message) { m.Is = false },
		"R": func(m *Message) { m.Record = api.Record{} }, "E": func(m *Message) { m.Entry = entry.Entry{} },
		"B": func(m *Message) { m.Ballot = 0 }, "O": func(m *Message) { m.Old = 0 }, "C": func(m *Message) { m.Config = term.Config{} },
	} {
		c := m
		clear(&c)
		if !strings.Contains(l, f) && !alike(c, m) {
			return false
		}
	}
	return m.Kind != 3 || m.Entry.Kind == 1 && m.Entry.Tag == 0 || m.Entry.Kind != 1 && len(m.Entry.Cut) == 0
}

func TestDecodeTakesNeitherFewerBytesNorMore(t *testing.T) { // P7.1
	for _, m := range rights() {
		s := plain(m)
		for n := range s {
			wantRefused(t, summed(s[:n]))
		}
		for _, behind := range []string{"\x00", "\x01", "\x80", "behind", s, recordText(aRecord()), configText(config(1))} {
			wantRefused(t, summed(s+behind))
		}
	}
}

func TestWhatIsDecodedIsEncodedSo(t *testing.T) { // P7.1, R1
	next := chance()
	texts := []string{recordText(aRecord()), recordText(api.Record{}), entryText(aCut(3, 4, 5)), entryText(aTrim(1, 0, 1, 0)), configText(config(1)), configText(small(2))}
	found := map[int]int{}
	for range 400000 {
		b := make([]byte, next.IntN(8))
		for i := range b {
			b[i] = []byte{0, 1, 2, 3, 5, 9, 10, 0x7f, 0x80, byte(next.IntN(12)), byte(next.IntN(256))}[next.IntN(11)]
		}
		s := string(b)
		if next.IntN(2) == 0 {
			s += texts[next.IntN(len(texts))]
		}
		b = summed(s)
		m, err := Decode(b)
		if err != api.OK {
			wantRefused(t, b)
			continue
		}
		found[m.Kind]++
		if again, err := Encode(m); !Right(m) || err != api.OK || !bytes.Equal(again, b) {
			t.Fatalf("Decode(%x) = %v, which is encoded %x, %d", b, m, again, err)
		}
	}
	for kind := 1; kind <= 10; kind++ {
		if found[kind] < 10 {
			t.Errorf("%d messages of Kind %d", found[kind], kind)
		}
	}
}

func TestSame(t *testing.T) { // P7.1
	whole := Message{ // all fields, though it is not right
		Kind: 1, From: 2, To: 3, Term: 4, Shard: 5, Number: 6, Is: true, Record: aRecord(),
		Entry: entry.Entry{Number: 7, Kind: 8, Cut: []int{9}, Tag: 10, Upto: api.Seq{Term: 11, Pos: 12}}, Ballot: 13, Old: 14, Config: config(15),
	}
	if again := whole; !Same(whole, again) {
		t.Error("one message is not the same")
	}
	for i, change := range []func(m *Message){
		func(m *Message) { *m = Message{} },
		func(m *Message) { m.Kind = 2 }, func(m *Message) { m.From = 3 }, func(m *Message) { m.To = 2 }, func(m *Message) { m.From, m.To = 3, 2 },
		func(m *Message) { m.Term = 5 }, func(m *Message) { m.Shard = 6 }, func(m *Message) { m.Number = 5 }, func(m *Message) { m.Is = false },
		func(m *Message) { m.Ballot = 14 }, func(m *Message) { m.Old = 13 }, func(m *Message) { m.Ballot, m.Old = 14, 13 },
		func(m *Message) { m.Record = api.Record{} }, func(m *Message) { m.Record.Id.Client = 4 }, func(m *Message) { m.Record.Id.Number = 4 },
		func(m *Message) { m.Record.Tags = nil }, func(m *Message) { m.Record.Tags = []int{4, 6} }, func(m *Message) { m.Record.Data = "abc" },
		func(m *Message) { m.Entry = entry.Entry{} }, func(m *Message) { m.Entry.Number = 8 }, func(m *Message) { m.Entry.Kind = 7 },
		func(m *Message) { m.Entry.Cut = []int{9, 0} }, func(m *Message) { m.Entry.Tag = 11 }, func(m *Message) { m.Entry.Upto.Term = 12 },
		func(m *Message) { m.Entry.Upto.Pos = 11 },
		func(m *Message) { m.Config = term.Config{} }, func(m *Message) { m.Config = config(14) }, func(m *Message) { m.Config = small(15) },
		func(m *Message) { m.Config.Sequencers = []int{0, 2, 1} }, func(m *Message) { m.Config.Shards = [][]int{{3, 4}, {5, 4}} },
		func(m *Message) { m.Config.Shards = [][]int{{3, 4}} },
	} {
		other := whole
		change(&other)
		if Same(whole, other) || Same(other, whole) {
			t.Errorf("%d: %v is the same as %v", i, other, whole)
		}
	}
	none := Message{Record: api.Record{Tags: []int{}}, Entry: entry.Entry{Cut: []int{}}, Config: term.Config{Sequencers: []int{}, Shards: [][]int{}}}
	if !Same(Message{}, none) || !Same(none, Message{}) { // R3
		t.Error("empty lists are not as good as none")
	}
}

func TestSameOfAll(t *testing.T) { // P7.1
	all := append(rights(), wrongs()...)
	for i, a := range all {
		for k, b := range all {
			if Same(a, b) != alike(a, b) || i == k && !Same(a, b) {
				t.Fatalf("Same(%v, %v) = %v", a, b, Same(a, b))
			}
		}
	}
}

func TestDecodeOfEncode(t *testing.T) { // P7.2
	next := chance()
	l := rights()
	for range 5000 {
		l = append(l, someMessage(next))
	}
	for _, m := range l {
		b, err := Encode(m)
		if err != api.OK || !bytes.Equal(b, summed(plain(m))) {
			t.Fatalf("Encode(%v) = %x, %d", m, b, err)
		}
		wantMessage(t, b, m)
	}
}

func TestEachByteTurned(t *testing.T) { // P7.2
	for _, m := range append(ordinary(), aKeep(7, most, fullRecord()), aPromiseOf(most, most, fullConfig(mostTerm)), anOrder(aTrim(most, 1<<30, mostTerm, most))) {
		b, _ := Encode(m)
		for at := range b {
			for turn := 1; turn < 256; turn++ {
				b[at] ^= byte(turn)
				wantRefused(t, b)
				b[at] ^= byte(turn)
			}
		}
		wantMessage(t, b, m)
	}
}

func TestWhatIsHandedInStays(t *testing.T) { // R5
	whole := []int{4, 5, 6}
	keep, order, accept := aKeep(3, 4, aRecord()), anOrder(aCut(3, 4, 5)), anAccept(5, config(1))
	keep.Record.Tags, order.Entry.Cut = whole[:2], whole[:2] // have room behind them, that is not theirs
	accept.Config.Sequencers, accept.Config.Shards = whole[:1], [][]int{whole[:2], whole[1:]}
	for _, m := range []Message{keep, order, accept} {
		Right(m)
		Same(m, accept)
		b, err := Encode(m)
		if err != api.OK {
			t.Fatal(m, err)
		}
		room := append(bytes.Clone(b), "behind"...)
		Decode(room[:len(b)])
		Decode(room)
		if !bytes.Equal(room[:len(b)], b) || string(room[len(b):]) != "behind" {
			t.Errorf("the bytes are %x now", room)
		}
	}
	if !slices.Equal(whole, []int{4, 5, 6}) || len(accept.Config.Shards) != 2 {
		t.Errorf("they are %v now", whole)
	}
}

func TestWhatIsToldIsTheCallersOwn(t *testing.T) { // R6
	for i, m := range []Message{aKeep(3, 4, aRecord()), anOrder(aCut(3, 4, 5)), aPromiseOf(5, 4, config(1)), anAccept(5, config(1))} {
		want := ordinary()[[]int{0, 2, 8, 9}[i]]
		b, _ := Encode(m)
		other, _ := Encode(m)
		one, _ := Decode(b)
		two, _ := Decode(b)
		spoil(&m)
		clear(b)
		spoil(&one)
		if !alike(two, want) || !bytes.Equal(other, summed(plain(want))) {
			t.Errorf("they share: %v, %x", two, other)
		}
	}
}

// spoil writes into all lists of a message.
func spoil(m *Message) {
	for _, l := range append(m.Config.Shards, m.Record.Tags, m.Entry.Cut, m.Config.Sequencers) {
		for i := range l {
			l[i] = 77
		}
	}
}
