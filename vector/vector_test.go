package vector

import (
	"math"
	"math/rand/v2"
	"slices"
	"testing"

	"carabiner/api"
)

const most = api.MaxCount

// rights are vectors: ordinary ones, and of the fewest and the most numbers, with the least and the greatest of them.
func rights() [][]int {
	return [][]int{
		{0}, {1}, {7}, {most - 1}, {most},
		{0, 0}, {1, 5}, {3, 2}, {0, most}, {most, 0},
		{1, 2, 3}, {3, 2, 1},
		{0, 0, 0, 0, 0, 0, 0, 0}, {1, 2, 3, 4, 5, 6, 7, 8}, {8, 7, 6, 5, 4, 3, 2, 1},
		{most, most, most, most, most, most, most, most},
	}
}

// wrongs are no vectors.
func wrongs() [][]int {
	return [][]int{
		nil, {},
		{-1}, {most + 1}, {math.MinInt}, {math.MaxInt}, {-most},
		{0, -1}, {-1, 0}, {5, most + 1}, {most + 1, 5}, {1, -1, 1},
		{0, 0, 0, 0, 0, 0, 0, -1}, {0, 0, 0, 0, 0, 0, 0, most + 1},
		{0, 0, 0, 0, 0, 0, 0, 0, 0}, {1, 2, 3, 4, 5, 6, 7, 8, 9}, make([]int, 100),
	}
}

// chance tells always the same numbers.
func chance() *rand.Rand { return rand.New(rand.NewPCG(3, 3)) }

// someVector has n numbers, mostly small ones, so that some are the same.
func someVector(next *rand.Rand, n int) []int {
	v := make([]int, n)
	for k := range v {
		v[k] = []int{next.IntN(4), next.IntN(4), next.IntN(300), next.IntN(most + 1), most}[next.IntN(5)]
	}
	return v
}

// pairs are vectors of one kind.
func pairs() [][2][]int {
	var l [][2][]int
	for _, a := range rights() {
		for _, b := range rights() {
			if len(a) == len(b) {
				l = append(l, [2][]int{a, b})
			}
		}
	}
	next := chance()
	for range 3000 {
		n := 1 + next.IntN(api.MaxShards)
		l = append(l, [2][]int{someVector(next, n), someVector(next, n)})
	}
	return l
}

// unlikes are two that are not of one kind: of other many numbers, or wrong ones.
func unlikes() [][2][]int {
	var l [][2][]int
	for _, a := range rights() {
		for _, b := range rights() {
			if len(a) != len(b) {
				l = append(l, [2][]int{a, b})
			}
		}
		for _, b := range wrongs() {
			l = append(l, [2][]int{a, b}, [2][]int{b, a})
		}
	}
	for _, a := range wrongs() {
		for _, b := range wrongs() {
			l = append(l, [2][]int{a, b})
		}
	}
	return l
}

// wantVector fails, if a call did not tell that vector.
func wantVector(t *testing.T, call string, got []int, is bool, want ...int) {
	t.Helper()
	if !is || !slices.Equal(got, want) {
		t.Fatalf("%s = %v, %v, want %v", call, got, is, want)
	}
}

// wantNone fails, if a call did not tell none and false.
func wantNone(t *testing.T, call string, got []int, is bool) {
	t.Helper()
	if is || len(got) != 0 {
		t.Fatalf("%s = %v, %v, want none", call, got, is)
	}
}

func TestRightVectors(t *testing.T) { // the chapter's word vector
	for _, v := range rights() {
		if !Right(v) {
			t.Errorf("%v is not right", v)
		}
	}
	for _, v := range wrongs() {
		if Right(v) {
			t.Errorf("%v is right", v)
		}
	}
	for n := range 12 {
		if Right(make([]int, n)) != (n >= 1 && n <= 8) {
			t.Errorf("of %d numbers: %v", n, Right(make([]int, n)))
		}
		for k := range min(n, 8) {
			for wrong, want := range map[int]bool{0: true, most: true, -1: false, most + 1: false, math.MinInt: false, math.MaxInt: false} {
				v := make([]int, min(n, 8))
				v[k] = wrong
				if Right(v) != want {
					t.Errorf("%v: %v", v, Right(v))
				}
			}
		}
	}
}

func TestZeroIsAsLongAsAsked(t *testing.T) { // P3.1
	for n := 1; n <= api.MaxShards; n++ {
		if v := Zero(n); len(v) != n || !Right(v) || slices.Max(v) != 0 {
			t.Errorf("Zero(%d) = %v", n, v)
		}
	}
	for _, n := range []int{0, -1, api.MaxShards + 1, 100, math.MinInt, math.MaxInt} {
		if v := Zero(n); len(v) != 0 {
			t.Errorf("Zero(%d) = %d numbers", n, len(v))
		}
	}
}

func TestKnownVectors(t *testing.T) { // P3.1
	v, is := Max([]int{1, 5}, []int{3, 2})
	wantVector(t, "Max", v, is, 3, 5)
	v, is = Min([]int{1, 5}, []int{3, 2})
	wantVector(t, "Min", v, is, 1, 2)
	v, is = Gain([]int{3, 5}, []int{1, 5})
	wantVector(t, "Gain", v, is, 2, 0)
	v, is = Set([]int{1, 5}, 0, 4)
	wantVector(t, "Set", v, is, 4, 5)
	if !Covers([]int{3, 5}, []int{1, 5}) || Covers([]int{1, 5}, []int{3, 5}) || Covers([]int{3, 5}, []int{1, 6}) {
		t.Error("Covers")
	}
	if !Same([]int{3, 5}, []int{3, 5}) || Same([]int{3, 5}, []int{3, 6}) || Same([]int{3, 5}, []int{5, 3}) {
		t.Error("Same")
	}
	if Total([]int{3, 5}) != 8 {
		t.Error("Total")
	}
}

func TestTwoOfOneKind(t *testing.T) { // P3.1
	for _, p := range pairs() {
		a, b := p[0], p[1]
		var greater, lesser, above []int
		covers, same, sum := true, true, 0
		for k := range a {
			greater = append(greater, max(a[k], b[k]))
			lesser = append(lesser, min(a[k], b[k]))
			above = append(above, a[k]-b[k])
			covers = covers && a[k] >= b[k]
			same = same && a[k] == b[k]
			sum += a[k]
		}
		v, is := Max(a, b)
		wantVector(t, "Max", v, is, greater...)
		v, is = Min(a, b)
		wantVector(t, "Min", v, is, lesser...)
		v, is = Gain(a, b)
		if covers {
			wantVector(t, "Gain", v, is, above...)
		} else {
			wantNone(t, "Gain", v, is)
		}
		if Covers(a, b) != covers || Same(a, b) != same || Total(a) != sum {
			t.Fatalf("%v, %v: Covers %v, Same %v, Total %d", a, b, Covers(a, b), Same(a, b), Total(a))
		}
	}
}

func TestOneNumberDecides(t *testing.T) { // P3.1
	for n := 1; n <= api.MaxShards; n++ {
		for k := range n {
			a, b := slices.Repeat([]int{5}, n), slices.Repeat([]int{5}, n)
			a[k] = 6
			if !Covers(a, b) || Covers(b, a) || Same(a, b) || Same(b, a) || !Same(a, a) || !Covers(a, a) {
				t.Errorf("%v, %v", a, b)
			}
			v, is := Gain(b, a)
			wantNone(t, "Gain", v, is)
		}
	}
}

func TestTwoThatAreNotOfOneKind(t *testing.T) { // P3.1
	for _, p := range unlikes() {
		a, b := p[0], p[1]
		v, is := Max(a, b)
		wantNone(t, "Max", v, is)
		v, is = Min(a, b)
		wantNone(t, "Min", v, is)
		v, is = Gain(a, b)
		wantNone(t, "Gain", v, is)
		if Covers(a, b) || Same(a, b) {
			t.Fatalf("%v, %v: Covers %v, Same %v", a, b, Covers(a, b), Same(a, b))
		}
	}
}

func TestTotalOfWhatIsNoVector(t *testing.T) { // P3.1
	for _, v := range wrongs() {
		if n := Total(v); n != 0 {
			t.Errorf("Total(%v) = %d", v, n)
		}
	}
	if n := Total(slices.Repeat([]int{most}, api.MaxShards)); n != 8*most {
		t.Errorf("Total of the greatest = %d", n)
	}
}

func TestSetRaisesOneNumber(t *testing.T) { // P3.1
	for _, v := range rights() {
		for k := range v {
			for _, n := range []int{0, 1, v[k] - 1, v[k], v[k] + 1, most - 1, most} {
				got, is := Set(v, k, n)
				if n < 0 || n > most {
					wantNone(t, "Set", got, is)
					continue
				}
				want := slices.Clone(v)
				if n > v[k] {
					want[k] = n
				}
				wantVector(t, "Set", got, is, want...)
			}
		}
	}
}

func TestSetRefuses(t *testing.T) { // P3.1
	for _, v := range rights() {
		for _, k := range []int{-1, len(v), len(v) + 1, api.MaxShards, math.MinInt, math.MaxInt} {
			got, is := Set(v, k, 1)
			wantNone(t, "Set of a number that is not there", got, is)
		}
		for k := range v {
			for _, n := range []int{-1, most + 1, math.MinInt, math.MaxInt} {
				got, is := Set(v, k, n)
				wantNone(t, "Set to a wrong number", got, is)
			}
		}
	}
	for _, v := range wrongs() {
		for k := -1; k <= len(v); k++ {
			got, is := Set(v, k, 1)
			wantNone(t, "Set of no vector", got, is)
		}
	}
}

// have is how many vectors of l have a number k that is not below n.
func have(l [][]int, k, n int) int {
	count := 0
	for _, v := range l {
		if v[k] >= n {
			count++
		}
	}
	return count
}

func TestQuorumOfKnownVectors(t *testing.T) { // P3.2
	l := [][]int{{1, 9}, {2, 4}, {3, 3}}
	for need, want := range map[int][]int{1: {3, 9}, 2: {2, 4}, 3: {1, 3}} {
		v, is := Quorum(l, need)
		wantVector(t, "Quorum", v, is, want...)
	}
	l = [][]int{{5, 0}, {5, 0}, {5, 7}, {0, 7}}
	for need, want := range map[int][]int{1: {5, 7}, 2: {5, 7}, 3: {5, 0}, 4: {0, 0}} {
		v, is := Quorum(l, need)
		wantVector(t, "Quorum", v, is, want...)
	}
	v, is := Quorum([][]int{{most}}, 1)
	wantVector(t, "Quorum of one", v, is, most)
}

func TestQuorumIsTheGreatestThatEnoughHave(t *testing.T) { // P3.2
	next := chance()
	for range 2000 {
		n := 1 + next.IntN(api.MaxShards)
		l := make([][]int, 1+next.IntN(9))
		for i := range l {
			l[i] = someVector(next, n)
		}
		for need := 1; need <= len(l); need++ {
			v, is := Quorum(l, need)
			if !is || len(v) != n {
				t.Fatalf("Quorum(%v, %d) = %v, %v", l, need, v, is)
			}
			for k := range v {
				if have(l, k, v[k]) < need || have(l, k, v[k]+1) >= need {
					t.Fatalf("Quorum(%v, %d) = %v: number %d", l, need, v, k)
				}
			}
		}
	}
}

func TestQuorumOfManyVectors(t *testing.T) { // P3.2
	l := make([][]int, 20000)
	for i := range l {
		l[i] = []int{i, len(l) - i, 7}
	}
	for _, need := range []int{1, 2, 777, len(l) - 1, len(l)} {
		v, is := Quorum(l, need)
		wantVector(t, "Quorum", v, is, len(l)-need, len(l)-need+1, 7)
	}
}

func TestQuorumRefusesByNeed(t *testing.T) { // P3.2
	for _, need := range []int{-1, 0, 1, 2, math.MinInt, math.MaxInt} {
		for _, l := range [][][]int{nil, {}} {
			v, is := Quorum(l, need)
			wantNone(t, "Quorum of an empty row", v, is)
		}
	}
	l := [][]int{{1, 9}, {2, 4}, {3, 3}}
	for n := 1; n <= len(l); n++ {
		for _, need := range []int{-1, 0, n + 1, n + 2, math.MinInt, math.MaxInt} {
			v, is := Quorum(l[:n], need)
			wantNone(t, "Quorum of a wrong need", v, is)
		}
	}
}

func TestQuorumRefusesUnlikeVectors(t *testing.T) { // P3.2
	for _, p := range unlikes() {
		a, b := p[0], p[1]
		for _, l := range [][][]int{{a, b}, {a, a, b}, {a, b, a}, {b, a, a}, {a, a, b, b}} {
			for need := 1; need <= len(l); need++ {
				v, is := Quorum(l, need)
				wantNone(t, "Quorum of unlike vectors", v, is)
			}
		}
	}
	for _, v := range wrongs() {
		got, is := Quorum([][]int{v}, 1)
		wantNone(t, "Quorum of no vector alone", got, is)
	}
}

func TestEncodeIsHowManyAndThese(t *testing.T) { // P3.3
	for _, c := range []struct {
		v    []int
		want string
	}{
		{[]int{0}, "\x01\x00"},
		{[]int{1, 5}, "\x02\x01\x05"},
		{[]int{300, 0, 127, 128}, "\x04\xac\x02\x00\x7f\x80\x01"},
		{[]int{most}, "\x01\x80\x80\x80\x80\x80\x20"},
		{[]int{most - 1, 0}, "\x02\xff\xff\xff\xff\xff\x1f\x00"},
		{[]int{1, 2, 3, 4, 5, 6, 7, 8}, "\x08\x01\x02\x03\x04\x05\x06\x07\x08"},
		{make([]int, 8), "\x08\x00\x00\x00\x00\x00\x00\x00\x00"},
	} {
		if b, err := Encode(c.v); err != api.OK || string(b) != c.want {
			t.Errorf("Encode(%v) = %x, %d, want %x", c.v, b, err, c.want)
		}
		if v, err := Decode([]byte(c.want)); err != api.OK || !slices.Equal(v, c.v) {
			t.Errorf("Decode(%x) = %v, %d, want %v", c.want, v, err, c.v)
		}
	}
}

func TestEncodeRefuses(t *testing.T) { // P3.3
	for _, v := range wrongs() {
		if b, err := Encode(v); err != api.ErrVectorForm || len(b) != 0 {
			t.Errorf("Encode(%v) = %x, %d", v, b, err)
		}
	}
}

// wantForm fails, if b is a vector.
func wantForm(t *testing.T, b []byte) {
	t.Helper()
	if v, err := Decode(b); err != api.ErrVectorForm || len(v) != 0 {
		t.Fatalf("Decode(%x) = %v, %d", b, v, err)
	}
}

func TestDecodeRefuses(t *testing.T) { // P3.3
	wantForm(t, nil)
	for _, s := range []string{
		"",
		"\x00", "\x00\x00", "\x00\x05", // no number
		"\x09\x00\x00\x00\x00\x00\x00\x00\x00\x00", // nine numbers
		"\x01\x81\x80\x80\x80\x80\x20",             // one above MaxCount
		"\x02\x00\x81\x80\x80\x80\x80\x20",
		"\x01\x80\x80\x80\x80\x80\x40",
		"\x81\x00\x05", "\x01\x85\x00", // not as short as can be
		"\x80", "\x01\x80", // within a number
		"\xff\xff\xff\xff\xff\xff\xff\xff\x3f\x00",
		"\x01\x80\x80\x80\x80\x80\x80\x80\x80\x80\x01",
	} {
		wantForm(t, []byte(s))
	}
}

func TestDecodeTakesNeitherFewerBytesNorMore(t *testing.T) { // P3.3
	for _, v := range rights() {
		b, _ := Encode(v)
		for n := range b {
			wantForm(t, b[:n])
		}
		for _, behind := range []string{"\x00", "\x01", "\x80", "behind"} {
			wantForm(t, append(slices.Clone(b), behind...))
		}
	}
}

func TestWhatIsDecodedIsEncodedSo(t *testing.T) { // P3.3, R1
	next := chance()
	vectors := 0
	for range 200000 {
		b := make([]byte, next.IntN(12))
		for i := range b {
			b[i] = []byte{0, 1, 2, 3, 8, 9, 0x7f, 0x80, byte(next.IntN(256))}[next.IntN(9)]
		}
		v, err := Decode(b)
		if err != api.OK {
			wantForm(t, b)
			continue
		}
		vectors++
		if again, err := Encode(v); err != api.OK || !slices.Equal(again, b) {
			t.Fatalf("Decode(%x) = %v, which is encoded %x, %d", b, v, again, err)
		}
	}
	if vectors < 1000 {
		t.Errorf("%d vectors", vectors)
	}
}

// smalls are all vectors of two numbers up to 3.
func smalls() [][]int {
	var l [][]int
	for n := range 16 {
		l = append(l, []int{n / 4, n % 4})
	}
	return l
}

func TestMaxAndMinAreBounds(t *testing.T) { // P3.4
	for _, p := range pairs() {
		above, _ := Max(p[0], p[1])
		below, _ := Min(p[0], p[1])
		for _, v := range p {
			if !Covers(above, v) || !Covers(v, below) {
				t.Fatalf("%v: Max %v, Min %v", p, above, below)
			}
		}
	}
}

func TestMaxAndMinAreTheNearestBounds(t *testing.T) { // P3.4
	for _, a := range smalls() {
		for _, b := range smalls() {
			above, _ := Max(a, b)
			below, _ := Min(a, b)
			for _, c := range smalls() {
				if Covers(c, above) != (Covers(c, a) && Covers(c, b)) {
					t.Fatalf("%v, %v: %v and their Max %v", a, b, c, above)
				}
				if Covers(below, c) != (Covers(a, c) && Covers(b, c)) {
					t.Fatalf("%v, %v: %v and their Min %v", a, b, c, below)
				}
			}
		}
	}
}

func TestTotalOfAGain(t *testing.T) { // P3.4
	for _, p := range pairs() {
		a, _ := Max(p[0], p[1])
		for _, b := range p {
			v, is := Gain(a, b)
			if !is || Total(v) != Total(a)-Total(b) {
				t.Fatalf("Gain(%v, %v) = %v, %v", a, b, v, is)
			}
		}
	}
}

func TestQuorumOfOneAndOfAll(t *testing.T) { // P3.4
	next := chance()
	for range 1000 {
		n := 1 + next.IntN(api.MaxShards)
		l := [][]int{someVector(next, n)}
		greatest, least := l[0], l[0]
		for range 1 + next.IntN(6) {
			v, is := Quorum(l, 1)
			wantVector(t, "Quorum of need 1", v, is, greatest...)
			v, is = Quorum(l, len(l))
			wantVector(t, "Quorum of all", v, is, least...)
			l = append(l, someVector(next, n))
			greatest, _ = Max(greatest, l[len(l)-1])
			least, _ = Min(least, l[len(l)-1])
		}
	}
}

func TestDecodeOfEncode(t *testing.T) { // P3.4
	for _, p := range pairs() {
		b, err := Encode(p[0])
		if err != api.OK {
			t.Fatalf("Encode(%v): %d", p[0], err)
		}
		if v, err := Decode(b); err != api.OK || !slices.Equal(v, p[0]) {
			t.Fatalf("Decode(Encode(%v)) = %v, %d", p[0], v, err)
		}
	}
}

func TestWhatIsHandedInStays(t *testing.T) { // R5
	whole := []int{9, 4, 7, 1, 3, 2}
	a, b := whole[:3], whole[3:] // a has room behind it, that is b's
	l := [][]int{b, a, b}
	Max(a, b)
	Min(a, b)
	Covers(a, b)
	Same(a, b)
	Total(a)
	Gain(a, b)
	Set(a, 0, 50)
	Set(a, 3, 50)
	Quorum(l, 2)
	Encode(a)
	if !slices.Equal(whole, []int{9, 4, 7, 1, 3, 2}) || &l[0][0] != &b[0] || &l[1][0] != &a[0] || &l[2][0] != &b[0] {
		t.Errorf("they are %v, %v now", whole, l)
	}
	bytes := []byte("\x02\x01\x05")
	Decode(bytes)
	if string(bytes) != "\x02\x01\x05" {
		t.Errorf("the bytes are %x now", bytes)
	}
}

func TestWhatIsToldIsTheCallersOwn(t *testing.T) { // R6
	for name, tell := range map[string]func(v []int) []int{
		"Zero":           func(v []int) []int { return Zero(len(v)) },
		"Max":            func(v []int) []int { v, _ = Max(v, v); return v },
		"Min":            func(v []int) []int { v, _ = Min(v, v); return v },
		"Gain":           func(v []int) []int { v, _ = Gain(v, Zero(len(v))); return v },
		"Set":            func(v []int) []int { v, _ = Set(v, 0, 5); return v },
		"Set to a lower": func(v []int) []int { v, _ = Set(v, 0, 0); return v },
		"Quorum":         func(v []int) []int { v, _ = Quorum([][]int{v}, 1); return v },
	} {
		v := append(make([]int, 0, 20), 3, 4)
		one, other := tell(v), tell(v)
		want := slices.Clone(other)
		one[0], one[1], v[0] = 77, 78, 79
		if !slices.Equal(other, want) || v[1] != 4 || one[0] != 77 {
			t.Errorf("%s shares: %v, %v, %v", name, v, one, other)
		}
	}
	b, _ := Encode([]int{1, 2})
	v, _ := Decode(b)
	clear(b)
	if again, _ := Encode([]int{1, 2}); string(again) != "\x02\x01\x02" || !slices.Equal(v, []int{1, 2}) {
		t.Errorf("bytes share: %x, %v", again, v)
	}
}
