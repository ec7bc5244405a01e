package term

import (
	"bytes"
	"encoding/binary"
	"hash/crc32"
	"math"
	"math/bits"
	"math/rand/v2"
	"slices"
	"strings"
	"testing"

	"carabiner/api"
)

const (
	mostTerm = 64
	mostNode = 15
)

// a is a configuration.
func a(term int, sequencers []int, shards ...[]int) Config {
	return Config{Term: term, Sequencers: sequencers, Shards: shards}
}

// row is a list of nodes.
func row(l ...int) []int { return l }

// upTo are the nodes 0 to n - 1.
func upTo(n int) []int {
	var l []int
	for i := range n {
		l = append(l, i)
	}
	return l
}

// shards are n shards of one node each.
func shards(n int) [][]int {
	var l [][]int
	for i := range n {
		l = append(l, row(i))
	}
	return l
}

// example is the configuration of the chapter's examples.
func example() Config { return a(1, row(0, 1, 2), row(3, 4), row(4, 5)) }

// rights are configurations: ordinary ones, and those at the chapter's edges.
func rights() []Config {
	return []Config{
		example(),
		a(1, row(0), row(0)), a(2, row(0), row(0)), a(mostTerm-1, row(0), row(0)), a(mostTerm, row(0), row(0)),
		a(1, row(mostNode), row(mostNode)), a(1, row(mostNode-1), row(1)), a(1, row(1), row(mostNode, 0)),
		a(3, upTo(3), row(7)), a(3, upTo(5), row(7)), a(3, upTo(7), row(7)), a(3, row(9, 15, 0, 3, 8, 1, 2), row(7)),
		a(3, row(5), row(2, 1)), a(3, row(5), row(2, 1, 0)), a(3, row(5), row(15, 14, 0), row(7), row(0, 15)),
		a(4, row(5), shards(7)...), a(4, row(5), shards(8)...), a(4, row(5), row(1, 2), row(1, 2)),
		a(mostTerm, row(15, 14, 13, 12, 11, 10, 9), slices.Repeat([][]int{row(15, 0, 8)}, 8)...),
	}
}

// wrongs are no configurations, each by one thing alone.
func wrongs() []Config {
	l := []Config{{}}
	with := func(change func(c *Config)) {
		c := example()
		change(&c)
		l = append(l, c)
	}
	for _, n := range []int{0, -1, -mostTerm, mostTerm + 1, 1 << 40, 1<<62 + 1, math.MinInt, math.MaxInt} {
		with(func(c *Config) { c.Term = n })
	}
	for _, s := range [][]int{nil, {}, upTo(2), upTo(4), upTo(6), upTo(8), upTo(9), upTo(11), upTo(16), make([]int, 1001)} {
		with(func(c *Config) { c.Sequencers = s })
	}
	for _, s := range [][]int{{1, 1, 2}, {2, 1, 1}, {1, 2, 1}, {1, 1, 1}, {0, 1, 2, 3, 0}, {0, 1, 2, 3, 4, 5, 5}, {5, 1, 2, 3, 4, 0, 5}} {
		with(func(c *Config) { c.Sequencers = s })
	}
	for _, s := range [][][]int{nil, {}, shards(9), shards(10), shards(16), make([][]int, 1000), slices.Repeat(shards(1), 9)} {
		with(func(c *Config) { c.Shards = s })
	}
	for _, s := range [][]int{nil, {}, upTo(4), upTo(5), upTo(16), make([]int, 1000), {1, 1}, {1, 1, 2}, {2, 1, 1}, {1, 2, 1}, {0, 0, 0}} {
		with(func(c *Config) { c.Shards[0] = s })
		with(func(c *Config) { c.Shards[1] = s })
		with(func(c *Config) { c.Shards = [][]int{s} })
	}
	for _, n := range []int{-1, -mostNode, mostNode + 1, 127, 1 << 40, 1<<62 + 1, math.MinInt, math.MaxInt} {
		for i := range 3 {
			with(func(c *Config) { c.Sequencers[i] = n })
		}
		for i := range 2 {
			with(func(c *Config) { c.Shards[0][i] = n })
			with(func(c *Config) { c.Shards[1][i] = n })
		}
		with(func(c *Config) { c.Sequencers = row(n) })
		with(func(c *Config) { c.Shards = [][]int{row(n)} })
	}
	return l
}

// chance tells always the same numbers.
func chance() *rand.Rand { return rand.New(rand.NewPCG(6, 6)) }

// someNodes are n nodes, all unlike.
func someNodes(next *rand.Rand, n int) []int { return next.Perm(mostNode + 1)[:n] }

// someConfig is a right one.
func someConfig(next *rand.Rand) Config {
	c := a(1+next.IntN(mostTerm), someNodes(next, 1+2*next.IntN(4)))
	for range 1 + next.IntN(8) {
		c.Shards = append(c.Shards, someNodes(next, 1+next.IntN(3)))
	}
	return c
}

// numbers writes numbers just as pack's chapter tells it.
func numbers(l ...int) string {
	var b []byte
	for _, n := range l {
		b = binary.AppendUvarint(b, uint64(n))
	}
	return string(b)
}

// plain is what the chapter tells of a configuration's bytes, ahead of the sum; also of one that is not right.
func plain(c Config) string {
	s := numbers(c.Term, len(c.Sequencers)) + numbers(c.Sequencers...) + numbers(len(c.Shards))
	for _, l := range c.Shards {
		s += numbers(len(l)) + numbers(l...)
	}
	return s
}

// summed is s, and a right sum behind it.
func summed(s string) []byte {
	return binary.LittleEndian.AppendUint32([]byte(s), crc32.ChecksumIEEE([]byte(s)))
}

// alike tells whether two configurations have the same fields, without asking Same.
func alike(x, y Config) bool {
	if x.Term != y.Term || !slices.Equal(x.Sequencers, y.Sequencers) || len(x.Shards) != len(y.Shards) {
		return false
	}
	for i, l := range x.Shards {
		if !slices.Equal(l, y.Shards[i]) {
			return false
		}
	}
	return true
}

// isZero tells whether nothing is in a configuration.
func isZero(c Config) bool { return c.Term == 0 && c.Sequencers == nil && c.Shards == nil }

// wantConfig fails, if b is not that configuration.
func wantConfig(t *testing.T, b []byte, want Config) {
	t.Helper()
	if c, err := Decode(b); err != api.OK || !alike(c, want) {
		t.Fatalf("Decode(%x) = %v, %d, want %v", b, c, err, want)
	}
}

// wantRefused fails, if b is a configuration.
func wantRefused(t *testing.T, b []byte) {
	t.Helper()
	if c, err := Decode(b); err != api.ErrTermForm || !isZero(c) {
		t.Fatalf("Decode(%x) = %v, %d", b, c, err)
	}
}

func TestRightConfigurations(t *testing.T) { // the chapter's word configuration
	for i, c := range rights() {
		if !Right(c) {
			t.Errorf("%d: %v is not right", i, c)
		}
	}
	for i, c := range wrongs() {
		if Right(c) {
			t.Errorf("%d: %v is right", i, c)
		}
	}
}

func TestOneFieldDecides(t *testing.T) { // the chapter's word configuration
	for _, n := range []int{math.MinInt, -1, 0, 1, 2, mostTerm - 1, mostTerm, mostTerm + 1, math.MaxInt} {
		if want := n >= 1 && n <= 64; Right(a(n, upTo(3), row(1))) != want {
			t.Errorf("Term %d: want %v", n, want)
		}
	}
	for n := range 17 {
		if want := n == 1 || n == 3 || n == 5 || n == 7; Right(a(1, upTo(n), row(1))) != want {
			t.Errorf("%d Sequencers: want %v", n, want)
		}
		if want := n >= 1 && n <= 8; Right(a(1, row(0), shards(n)...)) != want {
			t.Errorf("%d Shards: want %v", n, want)
		}
		if want := n >= 1 && n <= 3; Right(a(1, row(0), upTo(n))) != want || Right(a(1, row(0), row(1), upTo(n))) != want {
			t.Errorf("a shard of %d nodes: want %v", n, want)
		}
	}
	for _, n := range []int{math.MinInt, -1, 0, 1, mostNode - 1, mostNode, mostNode + 1, math.MaxInt} {
		want := n >= 0 && n <= 15
		if Right(a(1, row(n), row(1))) != want || Right(a(1, row(2, 3, n), row(1))) != want {
			t.Errorf("a Sequencer %d: want %v", n, want)
		}
		if Right(a(1, row(0), row(n))) != want || Right(a(1, row(0), row(1), row(2, 3, n))) != want {
			t.Errorf("a node %d that keeps: want %v", n, want)
		}
	}
}

func TestNodesAreUnlike(t *testing.T) { // the chapter's word configuration
	for n := 3; n <= 7; n += 2 {
		for i := range n {
			for k := range i {
				s := upTo(n)
				s[i] = s[k]
				if Right(a(1, s, row(9))) {
					t.Errorf("Sequencers %v are right", s)
				}
				if n == 3 && (Right(a(1, row(9), s)) || Right(a(1, row(9), row(8), s))) {
					t.Errorf("a shard %v is right", s)
				}
			}
		}
	}
	if !Right(a(1, row(1, 2, 3), row(1, 2, 3), row(1, 2, 3))) { // alike just in other lists
		t.Error("nodes that order, and keep several shards, are refused")
	}
}

func TestEncodeOfKnownConfigurations(t *testing.T) { // P6.1
	for _, c := range []struct {
		c    Config
		want string
	}{
		{a(1, row(0), row(0)), "\x01\x01\x00\x01\x01\x00"},
		{example(), "\x01\x03\x00\x01\x02\x02\x02\x03\x04\x02\x04\x05"},
		{a(64, row(15, 3, 9, 1, 0), row(2, 1, 0), row(15)), "\x40\x05\x0f\x03\x09\x01\x00\x02\x03\x02\x01\x00\x01\x0f"},
		{a(7, row(6, 5, 4, 3, 2, 1, 0), shards(8)...), "\x07\x07\x06\x05\x04\x03\x02\x01\x00\x08\x01\x00\x01\x01\x01\x02\x01\x03\x01\x04\x01\x05\x01\x06\x01\x07"},
	} {
		want := summed(c.want)
		if b, err := Encode(c.c); err != api.OK || !bytes.Equal(b, want) {
			t.Errorf("Encode(%v) = %x, %d, want %x", c.c, b, err, want)
		}
		wantConfig(t, want, c.c)
	}
}

func TestTheSumStandsBehindLowestFirst(t *testing.T) { // P6.1
	want := "\x01\x01\x00\x01\x01\x00\xc0\x00\x27\x5f"
	if b, err := Encode(a(1, row(0), row(0))); err != api.OK || string(b) != want {
		t.Errorf("Encode = %x, %d", b, err)
	}
	wantConfig(t, []byte(want), a(1, row(0), row(0)))
	wantRefused(t, []byte("\x01\x01\x00\x01\x01\x00\x5f\x27\x00\xc0"))
}

func TestEncodeRefuses(t *testing.T) { // P6.1
	for i, c := range wrongs() {
		if b, err := Encode(c); err != api.ErrTermForm || len(b) != 0 {
			t.Errorf("%d: Encode(%v) = %x, %d", i, c, b, err)
		}
	}
}

func TestDecodeRefusesAWrongSum(t *testing.T) { // P6.1
	wantRefused(t, nil)
	for _, s := range []string{
		"", "\x00", "\x01", "\x00\x00\x00", // fewer bytes than a sum has
		"\x00\x00\x00\x01", "\x00\x00\x00\x00\x00", "\x01\x01\x00\x01\x01\x00\x00\x00\x00\x00",
		"\xff", "no configuration", strings.Repeat("\x80", 100),
	} {
		wantRefused(t, []byte(s))
	}
	for _, c := range rights() {
		s := plain(c)
		wantRefused(t, []byte(s))
		wantRefused(t, append(summed(s), 0))
		wantRefused(t, append([]byte{0}, summed(s)...))
		for n := range summed(s) { // which ends too soon
			wantRefused(t, summed(s)[:n])
		}
		for turn := uint32(1); turn != 0; turn <<= 1 {
			wantRefused(t, binary.LittleEndian.AppendUint32([]byte(s), crc32.ChecksumIEEE([]byte(s))^turn))
		}
	}
}

func TestDecodeRefusesARightSumOfNoConfiguration(t *testing.T) { // P6.1
	top := "\xff\xff\xff\xff\xff\xff\xff\xff\x3f" // 2^62 - 1 and more
	for _, s := range []string{
		"", "\x01", "\x80", "\x01\x01", "\x01\x01\x00", "\x01\x01\x00\x01", "\x01\x01\x00\x01\x01", // they end too soon
		"\x00\x01\x00\x01\x01\x00", "\x41\x01\x00\x01\x01\x00", top + "\x01\x00\x01\x01\x00", // no Term
		"\x01\x00\x01\x01\x00", "\x01\x02\x00\x01\x01\x01\x00", "\x01\x04\x00\x01\x02\x03\x01\x01\x00", // none, or an even number, of Sequencers
		"\x01\x08\x00\x01\x02\x03\x04\x05\x06\x07\x01\x01\x00", "\x01\x09\x00\x01\x02\x03\x04\x05\x06\x07\x08\x01\x01\x00",
		"\x01" + top + "\x00\x01\x01\x00", "\x01\x03\x00\x01\x01\x01\x00",
		"\x01\x01\x10\x01\x01\x00", "\x01\x01\x7f\x01\x01\x00", "\x01\x01" + top + "\x01\x01\x00", // no node
		"\x01\x03\x00\x01\x00\x01\x01\x00", "\x01\x03\x01\x01\x00\x01\x01\x00", // alike
		"\x01\x01\x00\x00", "\x01\x01\x00\x09" + strings.Repeat("\x01\x00", 9), "\x01\x01\x00" + top + "\x01\x00", // no Shards, or too many
		"\x01\x01\x00\x01\x00", "\x01\x01\x00\x02\x01\x00\x00", "\x01\x01\x00\x02\x00\x01\x00", // a shard without nodes
		"\x01\x01\x00\x01\x04\x00\x01\x02\x03", "\x01\x01\x00\x01" + top + "\x00", // of too many
		"\x01\x01\x00\x01\x01\x10", "\x01\x01\x00\x01\x01" + top, "\x01\x01\x00\x02\x01\x00\x01\x10", // no node
		"\x01\x01\x00\x01\x02\x05\x05", "\x01\x01\x00\x01\x03\x05\x06\x05", "\x01\x01\x00\x02\x01\x00\x02\x05\x05", // alike
		"\x81\x00\x01\x00\x01\x01\x00", "\x01\x81\x00\x00\x01\x01\x00", "\x01\x01\x80\x00\x01\x01\x00", // not as short as can be
		"\x01\x01\x00\x81\x00\x01\x00", "\x01\x01\x00\x01\x81\x00\x00", "\x01\x01\x00\x01\x01\x80\x00",
		"\x01\x01\x00\x01\x01\x00\x00", "\x01\x01\x00\x01\x01\x00\x01\x00", // something behind
		"no configuration",
	} {
		wantRefused(t, summed(s))
	}
}

func TestDecodeRefusesWhatEncodeRefuses(t *testing.T) { // P6.1
	refused := 0
	for _, c := range wrongs() {
		all := append([]int{c.Term}, c.Sequencers...)
		for _, l := range c.Shards {
			all = append(all, l...)
		}
		if slices.Min(all) >= 0 { // else there are no bytes of it
			wantRefused(t, summed(plain(c)))
			refused++
		}
	}
	if refused < 60 {
		t.Errorf("%d were refused", refused)
	}
}

func TestDecodeTakesNeitherFewerBytesNorMore(t *testing.T) { // P6.1
	for _, c := range rights() {
		s := plain(c)
		for n := range s {
			wantRefused(t, summed(s[:n]))
		}
		for _, behind := range []string{"\x00", "\x01", "\x80", "behind", s} {
			wantRefused(t, summed(s+behind))
		}
	}
}

func TestWhatIsDecodedIsEncodedSo(t *testing.T) { // P6.1, R1
	next := chance()
	configs := 0
	for range 200000 {
		b := make([]byte, 5+next.IntN(6))
		for i := range b {
			b[i] = []byte{0, 1, 1, 1, 2, 3, 4, 5, 15, 0x40, 0x80, byte(next.IntN(256))}[next.IntN(12)]
		}
		b = summed(string(b))
		c, err := Decode(b)
		if err != api.OK {
			wantRefused(t, b)
			continue
		}
		configs++
		if again, err := Encode(c); err != api.OK || !bytes.Equal(again, b) {
			t.Fatalf("Decode(%x) = %v, which is encoded %x, %d", b, c, again, err)
		}
	}
	if configs < 200 {
		t.Errorf("%d configurations", configs)
	}
}

func TestSame(t *testing.T) { // P6.1
	whole := example()
	if !Same(whole, example()) {
		t.Error("one configuration is not the same")
	}
	for i, change := range []func(c *Config){
		func(c *Config) { *c = Config{} }, func(c *Config) { c.Term = 2 }, func(c *Config) { c.Term = 0 },
		func(c *Config) { c.Sequencers = nil }, func(c *Config) { c.Sequencers = row(0, 1) }, func(c *Config) { c.Sequencers = row(0, 2, 1) },
		func(c *Config) { c.Sequencers = row(0, 1, 3) }, func(c *Config) { c.Sequencers = row(0, 1, 2, 3) },
		func(c *Config) { c.Shards = nil }, func(c *Config) { c.Shards = c.Shards[:1] }, func(c *Config) { c.Shards = append(c.Shards, row(1)) },
		func(c *Config) { c.Shards = append(c.Shards, nil) },
		func(c *Config) { c.Shards[0], c.Shards[1] = c.Shards[1], c.Shards[0] },
		func(c *Config) { c.Shards[0] = row(4, 3) }, func(c *Config) { c.Shards[0] = row(3) }, func(c *Config) { c.Shards[1] = row(4, 6) },
		func(c *Config) { c.Shards[1] = row(4, 5, 6) }, func(c *Config) { c.Shards[1] = nil },
		func(c *Config) { c.Shards = [][]int{row(3), row(4, 4, 5)} }, func(c *Config) { c.Shards = [][]int{row(3, 4, 4, 5)} },
	} {
		other := example()
		change(&other)
		if Same(whole, other) || Same(other, whole) {
			t.Errorf("%d: %v is the same as %v", i, other, whole)
		}
	}
	for i, l := range [][2]Config{ // R3
		{{}, {Sequencers: []int{}, Shards: [][]int{}}},
		{a(1, nil, nil, row(1)), a(1, []int{}, []int{}, row(1))},
	} {
		if !Same(l[0], l[1]) || !Same(l[1], l[0]) {
			t.Errorf("%d: an empty list is not as good as none", i)
		}
	}
}

func TestSameOfAll(t *testing.T) { // P6.1
	all := append(rights(), wrongs()...)
	for i, x := range all {
		for k, y := range all {
			if Same(x, y) != alike(x, y) || i == k && !Same(x, y) {
				t.Errorf("Same(%v, %v) = %v", x, y, Same(x, y))
			}
		}
	}
}

func TestMajority(t *testing.T) { // P6.2
	for n, want := range []int{1, 1, 2, 2, 3, 3, 4, 4, 5, 5} {
		if got := Majority(a(1, upTo(n), row(9))); got != want {
			t.Errorf("Majority of %d = %d, want %d", n, got, want)
		}
	}
	if got := Majority(Config{}); got != 1 {
		t.Errorf("Majority of none = %d", got)
	}
	for n := range 200 { // more than half, and with one less no more so
		if got := Majority(Config{Sequencers: make([]int, n)}); 2*got <= n || 2*(got-1) > n {
			t.Errorf("Majority of %d = %d", n, got)
		}
	}
}

func TestPrimary(t *testing.T) { // P6.2
	for _, c := range []struct {
		l    []int
		want int
	}{
		{nil, -1}, {[]int{}, -1}, {row(0), 0}, {row(mostNode), 15}, {row(0, 1, 2), 0}, {row(2, 1, 0), 2}, {row(9, 15, 0, 3, 8, 1, 2), 9}, {row(4, 3), 4},
	} {
		if got := Primary(a(1, c.l, row(7))); got != c.want {
			t.Errorf("Primary of %v = %d, want %d", c.l, got, c.want)
		}
	}
	if got := Primary(Config{}); got != -1 {
		t.Errorf("Primary of none = %d", got)
	}
}

func TestServes(t *testing.T) { // P6.2
	c := a(1, row(0, 1, 2), row(3, 4), row(4, 5), row(15))
	for shard := -3; shard < 6; shard++ {
		for node := -3; node < 20; node++ {
			want := shard == 0 && (node == 3 || node == 4) || shard == 1 && (node == 4 || node == 5) || shard == 2 && node == 15
			if got := Serves(c, node, shard); got != want {
				t.Errorf("Serves(%d, %d) = %v", node, shard, got)
			}
		}
	}
	for _, n := range []int{math.MinInt, math.MaxInt} {
		if Serves(c, 3, n) || Serves(c, n, 0) || Serves(Config{}, n, n) {
			t.Errorf("%d serves, or is served", n)
		}
	}
	if Serves(Config{}, 0, 0) || Serves(a(1, row(0), nil), 0, 0) {
		t.Error("none serves")
	}
	eight := a(1, row(0), shards(8)...)
	for i := range 8 {
		if !Serves(eight, i, i) || Serves(eight, i, i+1) || Serves(eight, i, i-1) {
			t.Errorf("of eight shards number %d", i)
		}
	}
}

func TestNodes(t *testing.T) { // P6.2
	for _, c := range []struct {
		c    Config
		want []int
	}{
		{Config{}, nil},
		{example(), row(0, 1, 2, 3, 4, 5)},
		{a(1, row(0), row(0)), row(0)}, // it both orders and keeps
		{a(1, row(2, 1, 0), row(1), row(2, 0)), row(0, 1, 2)},
		{a(1, row(15), row(0)), row(0, 15)},
		{a(1, row(9, 15, 0), row(8, 3, 9), row(3, 10), row(15)), row(0, 3, 8, 9, 10, 15)},
		{a(1, row(4), row(12, 11, 10), row(2)), row(2, 4, 10, 11, 12)},
		{a(1, nil, row(3), row(1)), row(1, 3)}, {a(1, row(3, 1)), row(1, 3)}, // also of one that is not right
		{a(0, row(5, 5, -1), nil, row(99, 5)), row(-1, 5, 99)},
	} {
		if got := Nodes(c.c); !slices.Equal(got, c.want) {
			t.Errorf("Nodes(%v) = %v, want %v", c.c, got, c.want)
		}
	}
	full := a(1, row(15, 14, 13, 12, 11, 10, 9), row(8, 7, 6), row(5, 4, 3), row(2, 1, 0))
	for range 50 { // R7: no order of a map
		if got := Nodes(full); !slices.Equal(got, upTo(16)) {
			t.Fatalf("Nodes(%v) = %v", full, got)
		}
	}
}

func TestNext(t *testing.T) { // P6.2
	five := a(9, row(8, 6, 7, 5, 3), row(0, 9, 1), row(9, 3))
	for i, c := range []struct {
		c    Config
		gone []int
		want Config
	}{
		{example(), nil, a(2, row(0, 1, 2), row(3, 4), row(4, 5))}, // nobody
		{example(), []int{}, a(2, row(0, 1, 2), row(3, 4), row(4, 5))},
		{example(), row(4), a(2, row(0, 1, 2), row(3), row(5))},
		{example(), row(4, 4, 4), a(2, row(0, 1, 2), row(3), row(5))},
		{example(), row(3, 5), a(2, row(0, 1, 2), row(4), row(4))},
		{example(), row(0), a(2, row(1), row(3, 4), row(4, 5))}, // an even number is left
		{example(), row(1), a(2, row(0), row(3, 4), row(4, 5))},
		{example(), row(2), a(2, row(0), row(3, 4), row(4, 5))},
		{example(), row(1, 0), a(2, row(2), row(3, 4), row(4, 5))},                                          // an odd one
		{example(), row(6, 99, -1, 16, math.MinInt, math.MaxInt), a(2, row(0, 1, 2), row(3, 4), row(4, 5))}, // there is none such
		{example(), row(99, 3), a(2, row(0, 1, 2), row(4), row(4, 5))},
		{five, row(7), a(10, row(8, 6, 5), row(0, 9, 1), row(9, 3))},
		{five, row(3), a(10, row(8, 6, 7), row(0, 9, 1), row(9))}, // it both orders and keeps
		{five, row(9), a(10, row(8, 6, 7, 5, 3), row(0, 1), row(3))},
		{five, row(8, 5), a(10, row(6, 7, 3), row(0, 9, 1), row(9, 3))},
		{five, row(8, 5, 6), a(10, row(7), row(0, 9, 1), row(9, 3))},
		{five, row(8, 5, 6, 7), a(10, row(3), row(0, 9, 1), row(9, 3))},
		{a(63, row(0), row(0)), nil, a(64, row(0), row(0))},
		{a(1, upTo(7), row(9)), row(6), a(2, upTo(5), row(9))},
		{a(1, upTo(7), row(9)), row(0), a(2, row(1, 2, 3, 4, 5), row(9))},
	} {
		got, is := Next(c.c, c.gone)
		if !is || !alike(got, c.want) {
			t.Errorf("%d: Next(%v, %v) = %v, %v, want %v", i, c.c, c.gone, got, is, c.want)
		}
	}
}

func TestNextOfNoRightOne(t *testing.T) { // P6.2
	for i, c := range []struct {
		c    Config
		gone []int
	}{
		{example(), row(3, 4)}, {example(), row(5, 4)}, {example(), row(3, 4, 5)}, // all nodes of a shard
		{example(), row(0, 1, 2)}, {example(), row(2, 0, 1, 9)}, // all Sequencers
		{example(), upTo(16)},
		{a(1, row(0), row(1)), row(0)}, {a(1, row(0), row(1)), row(1)}, {a(1, row(0), row(0)), row(0)},
		{a(mostTerm, row(0), row(0)), nil}, {a(mostTerm, row(0, 1, 2), row(3, 4)), row(4)}, // the last term
	} {
		if got, is := Next(c.c, c.gone); is || !isZero(got) {
			t.Errorf("%d: Next(%v, %v) = %v, %v", i, c.c, c.gone, got, is)
		}
	}
	for i, c := range wrongs() {
		for _, gone := range [][]int{nil, row(0), row(1), row(15, 3), c.Sequencers} {
			if got, is := Next(c, gone); is || !isZero(got) {
				t.Errorf("%d: Next(%v, %v) = %v, %v", i, c, gone, got, is)
			}
		}
	}
	// What is not right stays so, also where those who make it wrong are gone.
	for _, c := range []Config{a(0, row(0), row(1)), a(1, row(0, 1), row(3)), a(1, row(0, 1, 1), row(3)), a(1, row(0), row(3, 99)), a(1, row(0), upTo(4))} {
		if got, is := Next(c, row(1, 99)); is || !isZero(got) {
			t.Errorf("Next(%v) = %v, %v", c, got, is)
		}
	}
}

func TestDecodeOfEncode(t *testing.T) { // P6.3
	next := chance()
	l := rights()
	for range 3000 {
		l = append(l, someConfig(next))
	}
	for _, c := range l {
		b, err := Encode(c)
		if err != api.OK || !bytes.Equal(b, summed(plain(c))) {
			t.Fatalf("Encode(%v) = %x, %d", c, b, err)
		}
		wantConfig(t, b, c)
	}
}

func TestEachByteTurned(t *testing.T) { // P6.1, P1.3
	for _, c := range rights() {
		b, _ := Encode(c)
		for at := range b {
			for turn := 1; turn < 256; turn++ {
				d := bytes.Clone(b)
				d[at] ^= byte(turn)
				wantRefused(t, d)
			}
		}
	}
}

func TestTwoMajoritiesHaveOneInCommon(t *testing.T) { // P6.3
	for n := 1; n <= 7; n += 2 {
		need := Majority(a(1, upTo(n), row(9)))
		if need > n {
			t.Errorf("of %d none are a majority: %d", n, need)
		}
		for one := range uint(1) << n {
			for two := range uint(1) << n {
				if bits.OnesCount(one) >= need && bits.OnesCount(two) >= need && one&two == 0 {
					t.Errorf("of %d: %b and %b have none in common", n, one, two)
				}
			}
		}
	}
}

// stay are the nodes of l that are not among gone, one by one.
func stay(l, gone []int) []int {
	var out []int
	for _, n := range l {
		is := true
		for _, g := range gone {
			is = is && g != n
		}
		if is {
			out = append(out, n)
		}
	}
	return out
}

// wantNext fails, if Next tells otherwise than the chapter.
func wantNext(t *testing.T, c Config, gone []int) bool {
	t.Helper()
	want := a(c.Term+1, stay(c.Sequencers, gone))
	if n := len(want.Sequencers); n == 2 || n == 4 || n == 6 {
		want.Sequencers = want.Sequencers[:n-1]
	}
	is := want.Term <= mostTerm && len(want.Sequencers) > 0
	for _, l := range c.Shards {
		want.Shards = append(want.Shards, stay(l, gone))
		is = is && len(stay(l, gone)) > 0
	}
	if !is {
		want = Config{}
	}
	got, told := Next(c, gone)
	if told != is || !alike(got, want) || !is && !isZero(got) {
		t.Fatalf("Next(%v, %v) = %v, %v, want %v, %v", c, gone, got, told, want, is)
	}
	if is && (!Right(got) || got.Term != c.Term+1 || slices.ContainsFunc(Nodes(got), func(n int) bool { return slices.Contains(gone, n) })) {
		t.Fatalf("Next(%v, %v) = %v", c, gone, got)
	}
	return is
}

func TestNextWithoutEachSet(t *testing.T) { // P6.2, P6.3
	for _, c := range []Config{example(), a(63, row(5, 0, 3), row(5, 1), row(2, 3, 0)), a(7, row(0), row(0, 1), row(1, 2)), a(7, row(6, 5, 4, 3, 2, 1, 0), row(7, 0, 3))} {
		for set := range 1 << 8 {
			var gone []int
			for n := range 8 {
				if set>>n&1 == 1 {
					gone = append(gone, n)
				}
			}
			wantNext(t, c, gone)
			slices.Reverse(gone) // their order is not seen
			wantNext(t, c, gone)
		}
	}
}

func TestNextOfMany(t *testing.T) { // P6.2, P6.3
	next := chance()
	told := 0
	for range 20000 {
		gone := someNodes(next, next.IntN(5))
		if next.IntN(4) == 0 {
			gone = append(gone, 16+next.IntN(9), -1-next.IntN(9))
		}
		if wantNext(t, someConfig(next), gone) {
			told++
		}
	}
	if told < 2000 || told > 18000 {
		t.Errorf("%d were told", told)
	}
}

func TestNextOfNext(t *testing.T) { // P6.3
	c := a(1, upTo(7), row(7, 8, 9))
	for term := 2; term <= mostTerm; term++ {
		next, is := Next(c, nil)
		if !is || next.Term != term {
			t.Fatalf("Next(%v) = %v, %v", c, next, is)
		}
		c = next
	}
	if got, is := Next(c, nil); is || !isZero(got) {
		t.Errorf("behind the last term: %v, %v", got, is)
	}
}

func TestWhatIsHandedInStays(t *testing.T) { // R5
	whole := upTo(12)
	c := a(1, whole[:3], whole[4:6], whole[6:8]) // have room behind them, that is not theirs
	gone := append(make([]int, 0, 8), 7, 4, 0)
	Right(c)
	b, _ := Encode(c)
	Same(c, example())
	Majority(c)
	Primary(c)
	Serves(c, 4, 0)
	Nodes(c)
	next, _ := Next(c, gone)
	for _, l := range append(next.Shards, next.Sequencers, Nodes(c)) {
		_ = append(l, 77, 78, 79)
	}
	if !slices.Equal(whole, upTo(12)) || !alike(c, a(1, row(0, 1, 2), row(4, 5), row(6, 7))) || !slices.Equal(gone[:8], row(7, 4, 0, 0, 0, 0, 0, 0)) {
		t.Errorf("they are %v, %v, %v now", whole, c, gone)
	}
	room := append(bytes.Clone(b), "behind"...)
	Decode(room[:len(b)])
	Decode(room)
	if !bytes.Equal(room[:len(b)], b) || string(room[len(b):]) != "behind" {
		t.Errorf("the bytes are %x now", room)
	}
}

func TestManyShardsStay(t *testing.T) { // R5: the list of shards has room behind it, too
	room := [][]int{row(3, 4), row(4, 5), row(9)}
	c := a(1, row(0, 1, 2), room[:2]...)
	Nodes(c)
	next, _ := Next(c, row(4))
	_ = append(next.Shards, row(8))
	if !slices.Equal(room[2], row(9)) || !alike(c, example()) {
		t.Errorf("they are %v now", room)
	}
}

func TestWhatIsToldIsTheCallersOwn(t *testing.T) { // R6
	c := example()
	b, _ := Encode(c)
	other, _ := Encode(c)
	one, _ := Decode(b)
	two, _ := Decode(b)
	next, _ := Next(c, nil)
	again, _ := Next(c, nil)
	nodes := Nodes(c)
	one.Sequencers[0], one.Shards[0][1], one.Shards[1] = 71, 72, row(73)
	next.Sequencers[1], next.Shards[0][0], next.Shards[1] = 74, 75, row(76)
	nodes[0] = 77
	clear(b)
	want := a(2, row(0, 1, 2), row(3, 4), row(4, 5))
	if !alike(c, example()) || !bytes.Equal(other, summed(plain(c))) || !alike(two, c) || !alike(again, want) || !slices.Equal(Nodes(c), upTo(6)) {
		t.Errorf("they share: %v, %x, %v, %v", c, other, two, again)
	}
	clear(c.Sequencers)
	clear(c.Shards[0])
	clear(c.Shards)
	if !alike(again, want) || !alike(two, example()) {
		t.Errorf("they keep what was handed in: %v, %v", again, two)
	}
}

func TestListsOfOneAnswerShareNothing(t *testing.T) { // R6
	b, _ := Encode(a(1, row(0, 1, 2), row(3, 4), row(4, 5)))
	one, _ := Decode(b)
	same := row(0, 1, 2)
	next, _ := Next(a(1, same, same, same), row(2)) // one list was handed in three times
	for _, c := range []Config{one, next} {
		text := plain(c)
		for _, l := range append(slices.Clone(c.Shards), c.Sequencers) {
			_ = append(l, 77, 78, 79)
			if plain(c) != text {
				t.Errorf("lists share their room: %v", c)
			}
		}
		c.Sequencers[0] = 81
		c.Shards[0][0] = 82
		if c.Sequencers[0] != 81 || c.Shards[1][0] == 82 || c.Shards[1][0] == 81 {
			t.Errorf("lists share: %v", c)
		}
	}
}
