package pack

import (
	"bytes"
	"math"
	"strings"
	"testing"

	"carabiner/api"
)

// numbers are ordinary ones, and those at which a number gets one byte more, with the greatest.
func numbers() []int {
	l := []int{0, 1, 2, 77, 300, 65535, api.MaxPage, 1000000, api.MaxCount, 1 << 62, 1<<62 - 1}
	for bits := 7; bits < 62; bits += 7 {
		l = append(l, 1<<bits-1, 1<<bits, 1<<bits+1)
	}
	return l
}

// wrongs are numbers that can't be written.
func wrongs() []int { return []int{-1, -128, -1 << 62, math.MinInt, 1<<62 + 1, math.MaxInt} }

// texts are ordinary ones, bytes of all kinds, and those at which the length gets one byte more.
func texts() []string {
	return []string{"", "a", "ab", "\x00", "\x80\xff", "grüße", strings.Repeat("x", 127), strings.Repeat("y", 128), strings.Repeat("\x80", 300), strings.Repeat("z", api.MaxPage)}
}

// plain writes a number just as the chapter tells it.
func plain(n int) string {
	s := ""
	for n >= 128 {
		s += string([]byte{byte(n%128 + 128)})
		n /= 128
	}
	return s + string([]byte{byte(n)})
}

// chance tells always the same numbers without a simple pattern.
func chance() func(below int) int {
	x := uint64(88172645463325252)
	return func(below int) int {
		x ^= x << 13
		x ^= x >> 7
		x ^= x << 17
		return int(x % uint64(below))
	}
}

func TestNumOfKnownNumbers(t *testing.T) { // P2.1
	for _, c := range []struct {
		n    int
		want string
	}{
		{0, "\x00"},
		{1, "\x01"},
		{127, "\x7f"},
		{128, "\x80\x01"},
		{300, "\xac\x02"},
		{16383, "\xff\x7f"},
		{16384, "\x80\x80\x01"},
		{1 << 40, "\x80\x80\x80\x80\x80\x20"},
		{1<<56 - 1, "\xff\xff\xff\xff\xff\xff\xff\x7f"},
		{1 << 56, "\x80\x80\x80\x80\x80\x80\x80\x80\x01"},
		{1<<62 - 1, "\xff\xff\xff\xff\xff\xff\xff\xff\x3f"},
		{1 << 62, "\x80\x80\x80\x80\x80\x80\x80\x80\x40"},
	} {
		if got, is := Num(nil, c.n); !is || string(got) != c.want {
			t.Errorf("Num(none, %d) = %x, %v, want %x", c.n, got, is, c.want)
		}
	}
}

func TestNumOfAllSmallNumbers(t *testing.T) { // P2.1
	for n := range 70000 {
		if got, is := Num(nil, n); !is || string(got) != plain(n) {
			t.Fatalf("Num(none, %d) = %x, %v, want %x", n, got, is, plain(n))
		}
	}
}

func TestNumWritesAllNumbersBehindWhatIsThere(t *testing.T) { // P2.1
	l := numbers()
	want := ""
	for i, n := range l {
		want += plain(n)
		for _, ahead := range []string{"", "\x80", "ahead"} {
			if got, is := Num([]byte(ahead), l[:i+1]...); !is || string(got) != ahead+want {
				t.Errorf("Num(%q, %v) = %x, %v, want %x", ahead, l[:i+1], got, is, ahead+want)
			}
		}
	}
	for _, ahead := range []string{"", "\x80", "ahead"} {
		if got, is := Num([]byte(ahead)); !is || string(got) != ahead {
			t.Errorf("Num(%q) = %x, %v", ahead, got, is)
		}
	}
	if got, is := Num(nil); !is || len(got) != 0 {
		t.Errorf("Num(nil) = %x, %v", got, is)
	}
}

func TestNumRefuses(t *testing.T) { // P2.1
	for _, n := range wrongs() {
		for _, l := range [][]int{{n}, {n, 5}, {5, n}, {5, 300, n}, {5, n, 300}, {n, n}} {
			for _, ahead := range []string{"", "ahead"} {
				if got, is := Num([]byte(ahead), l...); is || string(got) != ahead {
					t.Errorf("Num(%q, %v) = %x, %v", ahead, l, got, is)
				}
			}
			if got, is := Num(nil, l...); is || len(got) != 0 {
				t.Errorf("Num(nil, %v) = %x, %v", l, got, is)
			}
		}
	}
}

func TestTextIsItsLengthAndItself(t *testing.T) { // P2.1
	if got, is := Text(nil, "ab"); !is || string(got) != "\x02ab" {
		t.Errorf("Text(none, ab) = %x, %v", got, is)
	}
	for _, s := range texts() {
		for _, ahead := range []string{"", "\x80", "ahead"} {
			if got, is := Text([]byte(ahead), s); !is || string(got) != ahead+plain(len(s))+s {
				t.Errorf("Text(%q, %d bytes) = %d bytes, %v", ahead, len(s), len(got), is)
			}
		}
	}
}

func TestTextRefusesMoreThanMaxPage(t *testing.T) { // P2.1
	if got, is := Text(nil, strings.Repeat("z", api.MaxPage)); !is || len(got) != 3+api.MaxPage {
		t.Errorf("Text of MaxPage bytes = %d bytes, %v", len(got), is)
	}
	for _, n := range []int{api.MaxPage + 1, 2 * api.MaxPage} {
		for _, ahead := range []string{"", "ahead"} {
			if got, is := Text([]byte(ahead), strings.Repeat("z", n)); is || string(got) != ahead {
				t.Errorf("Text(%q, %d bytes) = %d bytes, %v", ahead, n, len(got), is)
			}
		}
	}
}

func TestBoolIsOneByte(t *testing.T) { // P2.1
	for _, ahead := range []string{"", "\x80", "ahead"} {
		if got := Bool([]byte(ahead), true); string(got) != ahead+"\x01" {
			t.Errorf("Bool(%q, true) = %x", ahead, got)
		}
		if got := Bool([]byte(ahead), false); string(got) != ahead+"\x00" {
			t.Errorf("Bool(%q, false) = %x", ahead, got)
		}
	}
}

func TestReaderOfNothing(t *testing.T) { // P2.2
	for _, b := range [][]byte{nil, {}} {
		if r := NewReader(b); r.Left() != 0 || r.Err() != api.OK || r.End() != api.OK {
			t.Errorf("NewReader(%#v): %d, %d, %d", b, r.Left(), r.Err(), r.End())
		}
		if r := NewReader(b); r.Num(9) != 0 || r.Err() != api.ErrPackShort {
			t.Errorf("Num of %#v: %d", b, r.Err())
		}
		if r := NewReader(b); r.Text(9) != "" || r.Err() != api.ErrPackShort {
			t.Errorf("Text of %#v: %d", b, r.Err())
		}
		if r := NewReader(b); r.Bool() || r.Err() != api.ErrPackShort {
			t.Errorf("Bool of %#v: %d", b, r.Err())
		}
	}
}

func TestReaderReadsOneBehindTheOther(t *testing.T) { // P2.2
	r := NewReader([]byte("\xac\x02\x02ab\x01\x00\x00\x07rest"))
	left := func(want int) {
		t.Helper()
		if r.Left() != want || r.Err() != api.OK {
			t.Errorf("Left = %d, Err = %d, want %d, OK", r.Left(), r.Err(), want)
		}
		if end := r.End(); end != api.ErrPackMore {
			t.Errorf("End with %d bytes left = %d", want, end)
		}
	}
	left(13)
	if n := r.Num(1000); n != 300 {
		t.Errorf("Num = %d", n)
	}
	left(11)
	if s := r.Text(1000); s != "ab" {
		t.Errorf("Text = %q", s)
	}
	left(8)
	if !r.Bool() {
		t.Error("Bool of 1")
	}
	left(7)
	if r.Bool() {
		t.Error("Bool of 0")
	}
	left(6)
	if s := r.Text(1000); s != "" {
		t.Errorf("Text of 0 bytes = %q", s)
	}
	left(5)
	if n := r.Num(7); n != 7 {
		t.Errorf("Num = %d", n)
	}
	left(4)
}

func TestNumIsRefusedWhenBytesEndTooSoon(t *testing.T) { // P2.2
	for n := range 9 { // of nine bytes that all have another one behind them the ninth is wrong itself
		for _, c := range []string{"\x80", "\xff", "\x81"} {
			r := NewReader([]byte(strings.Repeat(c, n)))
			if got := r.Num(1 << 62); got != 0 || r.Err() != api.ErrPackShort {
				t.Errorf("Num of %d times %x = %d, %d", n, c, got, r.Err())
			}
		}
	}
}

func TestNumIsRefusedByItsForm(t *testing.T) { // P2.2
	for _, c := range []struct {
		text string
		most int
	}{
		// not as short as can be
		{"\x80\x00", 1 << 62},
		{"\xff\x00", 1 << 62},
		{"\xac\x82\x00", 1 << 62},
		{"\x80\x80\x00", 1 << 62},
		{"\x80\x80\x80\x80\x80\x80\x80\x00", 1 << 62},
		{"\x80\x80\x80\x80\x80\x80\x80\x80\x00", 1 << 62},
		// more than nine bytes
		{"\x80\x80\x80\x80\x80\x80\x80\x80\x80", 1 << 62},
		{"\xff\xff\xff\xff\xff\xff\xff\xff\xff", 1 << 62},
		{"\x80\x80\x80\x80\x80\x80\x80\x80\x80\x00", 1 << 62},
		{"\x80\x80\x80\x80\x80\x80\x80\x80\x80\x01", 1 << 62},
		{"\x80\x80\x80\x80\x80\x80\x80\x80\x80\x80\x01", 1 << 62},
		{strings.Repeat("\x80", 100), 1 << 62},
		{strings.Repeat("\xff", 100) + "\x01", math.MaxInt},
		// above 2^62
		{"\x81\x80\x80\x80\x80\x80\x80\x80\x40", 1 << 62},
		{"\x81\x80\x80\x80\x80\x80\x80\x80\x40", math.MaxInt},
		{"\x80\x80\x80\x80\x80\x80\x80\x80\x41", math.MaxInt},
		{"\xff\xff\xff\xff\xff\xff\xff\xff\x7f", math.MaxInt},
		// above most
		{"\x01", 0},
		{"\x00", -1},
		{"\x05", 4},
		{"\x05", math.MinInt},
		{"\xac\x02", 299},
		{"\x80\x80\x80\x80\x80\x80\x80\x80\x40", 1<<62 - 1},
	} {
		for _, behind := range []string{"", "\x00", "behind"} {
			if c.text[len(c.text)-1] >= 128 && behind != "" {
				continue // what is behind would be of the number
			}
			r := NewReader([]byte(c.text + behind))
			if got := r.Num(c.most); got != 0 || r.Err() != api.ErrPackForm || r.End() != api.ErrPackForm {
				t.Errorf("Num(%d) of %x = %d, %d", c.most, c.text+behind, got, r.Err())
			}
		}
	}
}

func TestNumOfNineBytesAndMoreIsNotShort(t *testing.T) { // P2.2
	for n := 9; n < 40; n++ {
		for _, behind := range []string{"", "\x00", "\x01", "\x7f"} {
			r := NewReader([]byte(strings.Repeat("\x80", n) + behind))
			if got := r.Num(1 << 62); got != 0 || r.Err() != api.ErrPackForm {
				t.Errorf("%d bytes and %x: %d, %d", n, behind, got, r.Err())
			}
		}
	}
}

func TestNumUpToMost(t *testing.T) { // P2.2
	for _, n := range numbers() {
		b := []byte(plain(n))
		for _, most := range []int{n, n + 1, math.MaxInt} {
			r := NewReader(b)
			if got := r.Num(most); got != n || r.End() != api.OK {
				t.Errorf("Num(%d) of %d = %d, %d", most, n, got, r.End())
			}
		}
		for _, most := range []int{n - 1, -1, math.MinInt} {
			r := NewReader(b)
			if got := r.Num(most); got != 0 || r.Err() != api.ErrPackForm {
				t.Errorf("Num(%d) of %d = %d, %d", most, n, got, r.Err())
			}
		}
	}
}

func TestShortIsToldAheadOfForm(t *testing.T) { // P2.2, R1
	for _, most := range []int{0, -1, math.MinInt} {
		r := NewReader([]byte("\xff\xff"))
		if got := r.Num(most); got != 0 || r.Err() != api.ErrPackShort {
			t.Errorf("Num(%d) of ff ff = %d, %d", most, got, r.Err())
		}
	}
}

func TestTextThatIsNext(t *testing.T) { // P2.2
	for _, c := range []struct {
		text string
		most int
		want string
		err  api.Errno
	}{
		{"\x00", 0, "", api.OK},
		{"\x02ab", 2, "ab", api.OK},
		{"\x02ab", 3, "ab", api.OK},
		{"\x02ab", math.MaxInt, "ab", api.OK},
		{"\x02ab", 1, "", api.ErrPackForm}, // one above most
		{"\x00", -1, "", api.ErrPackForm},
		{"\x05ab", 4, "", api.ErrPackForm}, // above most, whatever is left
		{"\x03ab", 3, "", api.ErrPackShort},
		{"\x01", 1, "", api.ErrPackShort},
		{"", 1, "", api.ErrPackShort},
		{"\x82", 1000, "", api.ErrPackShort},
		{"\x82\x00ab", 1000, "", api.ErrPackForm}, // not as short as can be
		{"\x80\x80\x80\x80\x80\x80\x80\x80\x80\x01", 1 << 62, "", api.ErrPackForm},
		{"\x80\x80\x80\x80\x80\x80\x80\x80\x40ab", math.MaxInt, "", api.ErrPackShort}, // 2^62 bytes
		{"\x81\x80\x80\x80\x80\x80\x80\x80\x40ab", math.MaxInt, "", api.ErrPackForm},
	} {
		r := NewReader([]byte(c.text))
		if got := r.Text(c.most); got != c.want || r.Err() != c.err {
			t.Errorf("Text(%d) of %x = %q, %d, want %q, %d", c.most, c.text, got, r.Err(), c.want, c.err)
		}
	}
}

func TestTextOfMaxPageBytesAndMore(t *testing.T) { // P2.2
	for _, n := range []int{api.MaxPage, api.MaxPage + 1} {
		s := strings.Repeat("z", n)
		r := NewReader([]byte(plain(n) + s))
		if got := r.Text(n); got != s || r.End() != api.OK {
			t.Errorf("Text(%d) = %d bytes, %d", n, len(got), r.End())
		}
		r = NewReader([]byte(plain(n) + s))
		if got := r.Text(n - 1); got != "" || r.Err() != api.ErrPackForm {
			t.Errorf("Text(%d) of one more = %d bytes, %d", n-1, len(got), r.Err())
		}
		r = NewReader([]byte(plain(n) + s[1:]))
		if got := r.Text(n); got != "" || r.Err() != api.ErrPackShort {
			t.Errorf("Text(%d) of one fewer = %d bytes, %d", n, len(got), r.Err())
		}
	}
}

func TestBoolThatIsNext(t *testing.T) { // P2.2
	for c := range 256 {
		want := api.ErrPackForm
		if c < 2 {
			want = api.OK
		}
		r := NewReader([]byte{byte(c)})
		if got := r.Bool(); got != (c == 1) || r.Err() != want || r.Left() != 0 {
			t.Errorf("Bool of %x = %v, %d, %d left", c, got, r.Err(), r.Left())
		}
	}
}

func TestBehindAnErrorNothingIsRead(t *testing.T) { // P2.2
	const behind = "\x01\x01\x01a\x00"
	for _, c := range []struct {
		name string
		text string
		read func(r *Reader)
		want api.Errno
	}{
		{"a number above most", "\x05" + behind, func(r *Reader) { r.Num(4) }, api.ErrPackForm},
		{"a long number", "\x80\x00" + behind, func(r *Reader) { r.Num(9) }, api.ErrPackForm},
		{"a cut number", "\x80", func(r *Reader) { r.Num(9) }, api.ErrPackShort},
		{"a text above most", "\x05" + behind, func(r *Reader) { r.Text(4) }, api.ErrPackForm},
		{"a cut text", "\x09" + behind, func(r *Reader) { r.Text(9) }, api.ErrPackShort},
		{"no such byte", "\x02" + behind, func(r *Reader) { r.Bool() }, api.ErrPackForm},
		{"no byte", "", func(r *Reader) { r.Bool() }, api.ErrPackShort},
	} {
		r := NewReader([]byte(c.text))
		c.read(r)
		for range 3 {
			if n, s, is := r.Num(9), r.Text(9), r.Bool(); n != 0 || s != "" || is {
				t.Errorf("behind %s: %d, %q, %v", c.name, n, s, is)
			}
			r.Num(-1) // would be another error
			if r.Err() != c.want || r.End() != c.want || r.Left() != 0 {
				t.Errorf("behind %s: Err = %d, End = %d, want %d; %d left", c.name, r.Err(), r.End(), c.want, r.Left())
			}
		}
	}
}

func TestTheFirstErrorStays(t *testing.T) { // P2.2
	r := NewReader([]byte("\x03\x02\x80"))
	if n := r.Num(9); n != 3 || r.Err() != api.OK {
		t.Errorf("Num = %d, %d", n, r.Err())
	}
	r.Bool() // 2 is none
	r.Num(9) // 80 ends too soon
	if r.Err() != api.ErrPackForm || r.End() != api.ErrPackForm {
		t.Errorf("Err = %d, End = %d", r.Err(), r.End())
	}
	r = NewReader([]byte("\x80"))
	r.Num(9)
	r.Num(-1)
	r.Bool()
	if r.Err() != api.ErrPackShort || r.End() != api.ErrPackShort {
		t.Errorf("Err = %d, End = %d", r.Err(), r.End())
	}
}

func TestEndChangesNothing(t *testing.T) { // P2.2, R2
	r := NewReader([]byte("\x05\x06"))
	for want := 5; want < 7; want++ {
		if end := r.End(); end != api.ErrPackMore {
			t.Errorf("End ahead of %d = %d", want, end)
		}
		if err := r.Err(); err != api.OK {
			t.Errorf("Err behind End = %d", err)
		}
		if n := r.Num(9); n != want {
			t.Errorf("Num behind End = %d, want %d", n, want)
		}
	}
	if end := r.End(); end != api.OK {
		t.Errorf("End of all = %d", end)
	}
	if n := r.Num(9); n != 0 || r.End() != api.ErrPackShort {
		t.Errorf("Num behind all = %d, %d", n, r.End())
	}
}

// piece is something that is written.
type piece struct {
	kind, n int
	s       string
}

// somePieces are up to ten pieces.
func somePieces(next func(below int) int) []piece {
	l := make([]piece, next(11))
	for i := range l {
		l[i] = piece{kind: next(3)}
		switch l[i].kind {
		case 0:
			l[i].n = next(1<<next(63) + 1)
		case 1:
			b := make([]byte, next(200))
			for k := range b {
				b[k] = byte(next(256))
			}
			l[i].s = string(b)
		case 2:
			l[i].n = next(2)
		}
	}
	return l
}

// write puts pieces behind b.
func write(t *testing.T, b []byte, l []piece) []byte {
	t.Helper()
	for _, p := range l {
		is := true
		switch p.kind {
		case 0:
			b, is = Num(b, p.n)
		case 1:
			b, is = Text(b, p.s)
		case 2:
			b = Bool(b, p.n == 1)
		}
		if !is {
			t.Fatalf("%v was not written", p)
		}
	}
	return b
}

// read is how many of the pieces come as they were, up to the first error.
func read(r *Reader, l []piece) int {
	for i, p := range l {
		is := false
		switch p.kind {
		case 0:
			is = r.Num(1<<62) == p.n
		case 1:
			is = r.Text(api.MaxPage) == p.s
		case 2:
			is = r.Bool() == (p.n == 1)
		}
		if !is || r.Err() != api.OK {
			return i
		}
	}
	return len(l)
}

func TestWhatWasWrittenIsRead(t *testing.T) { // P2.3
	next := chance()
	for range 2000 {
		l := somePieces(next)
		b := write(t, nil, l)
		for _, behind := range []string{"", "\x00", "\x80", "behind"} {
			r := NewReader([]byte(string(b) + behind))
			if n := read(r, l); n != len(l) || r.Err() != api.OK || r.Left() != len(behind) {
				t.Fatalf("%v, and %q behind: %d are read, %d, %d left", l, behind, n, r.Err(), r.Left())
			}
			want := api.OK
			if behind != "" {
				want = api.ErrPackMore
			}
			if r.End() != want {
				t.Fatalf("%v, and %q behind: End = %d", l, behind, r.End())
			}
		}
	}
}

func TestNumbersAndTextsAreReadAsTheyWere(t *testing.T) { // P2.3
	for _, n := range numbers() {
		b, _ := Num(nil, n)
		r := NewReader(b)
		if got := r.Num(1 << 62); got != n || r.End() != api.OK {
			t.Errorf("%d is read as %d, %d", n, got, r.End())
		}
	}
	for _, s := range texts() {
		b, _ := Text(nil, s)
		r := NewReader(b)
		if got := r.Text(api.MaxPage); got != s || r.End() != api.OK {
			t.Errorf("a text of %d bytes is read as one of %d, %d", len(s), len(got), r.End())
		}
	}
}

func TestWhatWasCutIsShort(t *testing.T) { // P2.3
	next := chance()
	for range 200 {
		l := somePieces(next)
		b := write(t, nil, l)
		for cut := range len(b) {
			r := NewReader(b[:cut])
			if n := read(r, l); n == len(l) || r.Err() != api.ErrPackShort || r.End() != api.ErrPackShort {
				t.Fatalf("%v, cut to %d of %d bytes: %d are read, %d", l, cut, len(b), n, r.Err())
			}
		}
	}
}

// oneWay fails, if the number with which b begins is written otherwise.
func oneWay(t *testing.T, b []byte) {
	t.Helper()
	r := NewReader(b)
	n := r.Num(math.MaxInt)
	if r.Err() != api.OK {
		return
	}
	if want, is := Num(nil, n); !is || !bytes.Equal(b[:len(b)-r.Left()], want) {
		t.Fatalf("%x is read as %d, which is written %x, %v", b, n, want, is)
	}
}

func TestANumberIsWrittenInOneWay(t *testing.T) { // P2.3
	for c := range 1 << 24 {
		if c < 1<<16 || c&0x8080 == 0x8080 { // else the last byte is not of the number
			oneWay(t, []byte{byte(c), byte(c >> 8), byte(c >> 16)})
		}
	}
	next := chance()
	for range 100000 {
		b := make([]byte, 1+next(11))
		for i := range b {
			b[i] = []byte{0x80, 0xff, 0x81, byte(0x80 + next(128))}[next(4)]
		}
		b[len(b)-1] = []byte{0, 1, 0x3f, 0x40, 0x41, 0x7f, byte(next(128))}[next(7)]
		oneWay(t, b)
	}
}

func TestNoBytesMakeAReaderPanic(t *testing.T) { // R1
	next := chance()
	mosts := append(append(numbers(), wrongs()...), -1)
	for range 50000 {
		b := make([]byte, next(24))
		for i := range b {
			b[i] = []byte{0, 1, 2, 0x7f, 0x80, 0xff, byte(next(256))}[next(7)]
		}
		r := NewReader(b)
		for range 8 {
			left, most := r.Left(), mosts[next(len(mosts))]
			switch next(4) {
			case 0:
				if n := r.Num(most); n < 0 || n > 1<<62 || n > 0 && n > most {
					t.Fatalf("%x: Num(%d) = %d", b, most, n)
				}
			case 1:
				if s := r.Text(most); len(s) > left || len(s) > 0 && len(s) > most {
					t.Fatalf("%x: Text(%d) = %q", b, most, s)
				}
			case 2:
				r.Bool()
			case 3:
				r.End()
			}
			if r.Left() < 0 || r.Left() > left {
				t.Fatalf("%x: %d left behind %d", b, r.Left(), left)
			}
		}
	}
}

func TestWhatIsHandedInStays(t *testing.T) { // R5
	whole := []byte("abcdefgh")
	l := []int{1, 300, 5}
	Num(whole[:2], l...) // has room behind it, that is not Num's
	Num(whole[:2], 1, -1)
	Text(whole[:2], "xyz")
	Text(whole[:2], strings.Repeat("x", api.MaxPage+1))
	Bool(whole[:2], true)
	r := NewReader(whole[:4])
	r.Num(9)
	r.Text(9)
	if string(whole) != "abcdefgh" || l[0] != 1 || l[1] != 300 || l[2] != 5 {
		t.Errorf("they are %q, %v now", whole, l)
	}
}

func TestWhatIsToldIsTheCallersOwn(t *testing.T) { // R6
	for name, write := range map[string]func(b []byte) []byte{
		"Num":              func(b []byte) []byte { b, _ = Num(b, 5); return b },
		"Num of none":      func(b []byte) []byte { b, _ = Num(b); return b },
		"Num of a wrong":   func(b []byte) []byte { b, _ = Num(b, 5, -1); return b },
		"Text":             func(b []byte) []byte { b, _ = Text(b, "x"); return b },
		"Text of too much": func(b []byte) []byte { b, _ = Text(b, strings.Repeat("x", api.MaxPage+1)); return b },
		"Bool":             func(b []byte) []byte { return Bool(b, true) },
	} {
		b := make([]byte, 2, 100)
		one, other := write(b), write(b)
		one[0], b[1] = 'x', 'y'
		if b[0] != 0 || one[1] != 0 || other[0] != 0 || other[1] != 0 {
			t.Errorf("%s shares: %x, %x, %x", name, b, one, other)
		}
		one, other = append(one, 'v'), append(other, 'w')
		if one[len(one)-1] != 'v' {
			t.Errorf("%s shares the room behind it", name)
		}
	}
}

func TestAReaderKeepsNothingThatIsHandedIn(t *testing.T) { // R6
	b := []byte("\x05\x02ab\x01")
	r, other := NewReader(b), NewReader(b)
	clear(b)
	for _, r := range []*Reader{r, other} {
		if n, s, is := r.Num(9), r.Text(9), r.Bool(); n != 5 || s != "ab" || !is || r.End() != api.OK {
			t.Errorf("%d, %q, %v, %d", n, s, is, r.End())
		}
	}
}
