package page

import (
	"bytes"
	"encoding/binary"
	"hash/crc32"
	"math"
	"math/rand/v2"
	"slices"
	"testing"

	"carabiner/api"
)

// summed is b, and its sum behind it, as the chapter tells it.
func summed(b []byte) []byte {
	return binary.LittleEndian.AppendUint32(bytes.Clone(b), crc32.ChecksumIEEE(b))
}

// framed is a frame of b, as the chapter tells it.
func framed(b []byte) []byte {
	return summed(append(binary.AppendUvarint(nil, uint64(len(b))), b...))
}

// row is one frame behind the other.
func row(l ...[]byte) []byte {
	var b []byte
	for _, text := range l {
		b = append(b, framed(text)...)
	}
	return b
}

// places are where each frame of a row begins, and where the last one ends.
func places(l [][]byte) []int {
	out := []int{0}
	for i := range l {
		out = append(out, len(row(l[:i+1]...)))
	}
	return out
}

// texts are the bytes of some.
func texts(l ...string) [][]byte {
	var out [][]byte
	for _, s := range l {
		out = append(out, []byte(s))
	}
	return out
}

// some is n bytes, of which no two ones behind one another are the same.
func some(n int) []byte {
	b := make([]byte, n)
	for i := range b {
		b[i] = byte(i*7 + i>>8)
	}
	return b
}

// ordinary is a row of frames of few bytes and of more, one of which has another frame within it.
func ordinary() [][]byte {
	return [][]byte{[]byte("ab"), nil, some(127), some(128), framed([]byte("within")), {0}, some(300)}
}

// chance tells always the same numbers.
func chance() *rand.Rand { return rand.New(rand.NewPCG(8, 8)) }

// same tells whether two rows have the same.
func same(a, b [][]byte) bool { return slices.EqualFunc(a, b, bytes.Equal) }

// wantScan fails, if Scan of b does not tell l, and n bytes.
func wantScan(t *testing.T, b []byte, l [][]byte, n int) {
	t.Helper()
	if got, upto := Scan(b); !same(got, l) || upto != n {
		t.Fatalf("Scan of %d bytes: %d frames, %d bytes, want %d, %d", len(b), len(got), upto, len(l), n)
	}
}

// wantStore fails, if s does not tell that it has l, of which the first ones are synced.
func wantStore(t *testing.T, s *Store, l [][]byte, synced int) {
	t.Helper()
	all := row(l...)
	at := len(row(l[:synced]...))
	if s.Len() != len(all) || s.Synced() != at {
		t.Fatalf("Len = %d, Synced = %d, want %d, %d", s.Len(), s.Synced(), len(all), at)
	}
	if got := s.Frames(); !same(got, l) {
		t.Fatalf("Frames: %x, want %x", got, l)
	}
	if got := s.Bytes(); !bytes.Equal(got, all[:at]) {
		t.Fatalf("Bytes: %x, want %x", got, all[:at])
	}
	end := 0
	for i, text := range l {
		if got, is := s.Read(end); !is || !bytes.Equal(got, text) {
			t.Fatalf("Read(%d) of frame %d = %x, %v, want %x", end, i, got, is, text)
		}
		end += len(framed(text))
	}
	if got, is := s.Read(end); is || got != nil {
		t.Fatalf("Read(%d), the end of all, = %x, %v", end, got, is)
	}
}

// filled has l, of which the first ones are synced.
func filled(t *testing.T, l [][]byte, synced int) *Store {
	t.Helper()
	s := New(nil)
	for i, text := range l {
		if i == synced {
			s.Sync()
		}
		wantAppend(t, s, text, len(row(l[:i]...)))
	}
	if synced == len(l) {
		s.Sync()
	}
	return s
}

// wantAppend fails, if a frame is not put at a place.
func wantAppend(t *testing.T, s *Store, b []byte, want int) {
	t.Helper()
	if at, err := s.Append(b); at != want || err != api.OK {
		t.Fatalf("Append of %d bytes = %d, %d, want %d, OK", len(b), at, err, want)
	}
}

// wantRefused fails, if a frame is taken, or refused otherwise.
func wantRefused(t *testing.T, s *Store, b []byte, want api.Errno) {
	t.Helper()
	if at, err := s.Append(b); at != 0 || err != want {
		t.Fatalf("Append of %d bytes = %d, %d, want 0, %d", len(b), at, err, want)
	}
}

func TestScanOfKnownBytes(t *testing.T) { // P8.1
	for _, c := range []struct {
		b    string
		want [][]byte
		n    int
	}{
		{"", nil, 0},
		{"\x00\x00\x00\x00\x00", nil, 0}, // the chapter's example
		{"\x00\x8d\xef\x02\xd2", texts(""), 5},
		{"\x00\xd2\x02\xef\x8d", nil, 0},          // the sum's highest byte first
		{"\x09123456789\x26\x39\xf4\xcb", nil, 0}, // the sum without how many there are
		{"\x01a\x70\x72\x77\x62", texts("a"), 6},
		{"\x01a\x70\x72\x77\x62\x00\x8d\xef\x02\xd2", texts("a", ""), 11},
		{"\x01a\x70\x72\x77\x62\x00\x8d\xef\x02\xd2\x00", texts("a", ""), 11},
		{"\x00\x01a\x70\x72\x77\x62", nil, 0},
	} {
		wantScan(t, []byte(c.b), c.want, c.n)
	}
	wantScan(t, nil, nil, 0)
}

func TestScanOfRows(t *testing.T) { // P8.1
	for _, n := range []int{0, 1, 2, 126, 127, 128, 129, 1000, 16383, 16384, 65000} {
		l := [][]byte{some(n)}
		wantScan(t, row(l...), l, len(row(l...)))
	}
	l := ordinary()
	for n := range len(l) + 1 {
		b := row(l[:n]...)
		wantScan(t, b, l[:n], len(b))
		for _, behind := range []string{"\x00", "\x80", "\xff", "behind", "\x00\x00\x00\x00\x00", "\x01a\x70\x72\x77"} {
			wantScan(t, append(bytes.Clone(b), behind...), l[:n], len(b))
			wantScan(t, slices.Concat(b, []byte(behind), framed([]byte("more"))), l[:n], len(b))
		}
	}
}

func TestScanOfMoreThanAStoreHas(t *testing.T) { // P8.1
	var l [][]byte
	for range 10 {
		l = append(l, some(20000))
	}
	wantScan(t, row(l...), l, 10*20007)
}

func TestScanOfFramesOfMaxPageBytesAndMore(t *testing.T) { // P8.1
	l := [][]byte{some(api.MaxPage)}
	wantScan(t, row(l...), l, api.MaxPage+7)
	wantScan(t, row(some(api.MaxPage-1)), [][]byte{some(api.MaxPage - 1)}, api.MaxPage+6)
	for _, n := range []int{api.MaxPage + 1, api.MaxPage + 2, 1 << 20} {
		wantScan(t, row(some(n)), nil, 0)
		wantScan(t, row([]byte("ahead"), some(n), []byte("behind")), texts("ahead"), 10)
	}
	for _, n := range []uint64{api.MaxPage + 1, 1 << 31, 1 << 40, 1 << 62, 1<<62 + 1, math.MaxUint64} {
		wantScan(t, summed(append(binary.AppendUvarint(nil, n), "few"...)), nil, 0)
	}
}

// wantCut fails, if of each beginning of a row not just the whole frames are told.
func wantCut(t *testing.T, l [][]byte, told func(b []byte) ([][]byte, int)) {
	t.Helper()
	b, at := row(l...), places(l)
	for cut := range len(b) + 1 {
		whole := 0
		for whole < len(l) && at[whole+1] <= cut {
			whole++
		}
		if got, n := told(b[:cut]); !same(got, l[:whole]) || n != at[whole] {
			t.Fatalf("cut to %d bytes: %d frames, %d bytes, want %d, %d", cut, len(got), n, whole, at[whole])
		}
	}
}

// fresh is what a store that is made of b has.
func fresh(b []byte) ([][]byte, int) {
	s := New(b)
	return s.Frames(), s.Len()
}

func TestBytesThatEndTooSoon(t *testing.T) { // P8.1
	wantCut(t, ordinary(), Scan)
	wantCut(t, ordinary(), fresh)
}

// wrongFrames are bytes with which no frame begins.
func wrongFrames() [][]byte {
	l := [][]byte{nil, {0}, {0, 0, 0, 0}, {0x80}, bytes.Repeat([]byte{0x80}, 30), bytes.Repeat([]byte{0xff}, 30)}
	for _, s := range []string{
		"\x80\x00", "\x82\x00ab", "\x82\x80\x00ab", "\x80\x80\x80\x80\x80\x80\x80\x80\x00", // numbers that are not as short as can be
		"\x80\x80\x80\x80\x80\x80\x80\x80\x80\x00", "\x82\x80\x80\x80\x80\x80\x80\x80\x80\x00ab", // and of more than nine bytes
		"\x01ab", "\x03ab", "\x02", "\x81\x80\x04ab", "\x80\x80\x80\x80\x80\x80\x80\x80\x40ab", // of other many bytes
	} {
		l = append(l, summed([]byte(s)))
	}
	right := framed([]byte("right"))
	for at := range 4 { // wrong sums
		for _, turn := range []byte{1, 0x80, 0xff} {
			b := bytes.Clone(right)
			b[len(b)-1-at] ^= turn
			l = append(l, b)
		}
	}
	return append(l, right[1:], append([]byte{5}, right...), append([]byte("\x05right"), 0, 0, 0, 0))
}

func TestWrongFramesEndTheRow(t *testing.T) { // P8.1
	ahead := texts("one", "", "two")
	n := len(row(ahead...))
	for i, wrong := range wrongFrames() {
		for _, b := range [][]byte{wrong, append(bytes.Clone(wrong), framed([]byte("behind"))...)} {
			if i == 0 {
				break // no bytes, and then a right frame
			}
			wantScan(t, b, nil, 0)
			wantStore(t, New(b), nil, 0)
			all := append(row(ahead...), b...)
			wantScan(t, all, ahead, n)
			wantStore(t, New(all), ahead, len(ahead))
		}
	}
}

func TestEachByteTurned(t *testing.T) { // P8.1
	l := ordinary()
	b, at := row(l...), places(l)
	for i, text := range l {
		for k := at[i]; k < at[i+1]; k++ {
			for turn := 1; turn < 256; turn++ {
				if len(text) > 30 && k > at[i]+3 && turn != 1<<(turn%8) && turn != 255 {
					continue
				}
				b[k] ^= byte(turn)
				wantScan(t, b, l[:i], at[i])
				if s := New(b); s.Len() != at[i] || s.Synced() != at[i] || !same(s.Frames(), l[:i]) {
					t.Fatalf("byte %d turned by %x: the store has %d bytes", k, turn, s.Len())
				}
				b[k] ^= byte(turn)
			}
		}
	}
	wantScan(t, b, l, len(b))
}

func TestNewHasWholeFramesAllSynced(t *testing.T) { // P8.1
	wantStore(t, New(nil), nil, 0)
	wantStore(t, New([]byte{}), nil, 0)
	for n := range len(ordinary()) + 1 {
		l := ordinary()[:n]
		wantStore(t, New(row(l...)), l, n)
		for _, behind := range []string{"\x00", "\x00\x00\x00\x00\x00", "\xff", "behind", "\x01a\x70\x72\x77"} {
			s := New(append(row(l...), behind...))
			wantStore(t, s, l, n)
			wantAppend(t, s, []byte("next"), len(row(l...))) // what was behind is gone
			wantStore(t, s, append(slices.Clone(l), []byte("next")), n)
		}
	}
}

func TestNewOfMoreThanMaxPageBytes(t *testing.T) { // P8.1
	l := [][]byte{some(30000), some(30000)}
	rest := api.MaxPage - len(row(l...)) // room for a frame of 6 bytes fewer
	for _, c := range []struct {
		last [][]byte
		n    int // of these there is room for
	}{
		{[][]byte{some(rest - 6)}, 1},
		{[][]byte{some(rest - 5)}, 0}, // one byte more
		{[][]byte{some(rest - 6), nil}, 1},
		{[][]byte{some(rest - 11), nil}, 2},
		{[][]byte{some(rest - 11), nil, nil}, 2},
		{[][]byte{some(rest - 10), nil, nil}, 1},
		{[][]byte{some(rest)}, 0},
		{[][]byte{some(100000), nil}, 0},
	} {
		all := append(slices.Clone(l), c.last...)
		wantStore(t, New(row(all...)), all[:2+c.n], 2+c.n)
		wantStore(t, New(append(row(all...), some(100000)...)), all[:2+c.n], 2+c.n)
	}
	wantStore(t, New(row(some(api.MaxPage))), nil, 0) // a frame, but not of the first MaxPage bytes
	wantStore(t, New(some(api.MaxPage+1)), nil, 0)
}

func TestAppendTellsWhereEachFrameBegins(t *testing.T) { // P8.2
	s := New(nil)
	var l [][]byte
	for _, n := range []int{0, 1, 2, 126, 127, 128, 129, 0, 300, 16383, 16384, 5, 0} {
		wantAppend(t, s, some(n), len(row(l...)))
		l = append(l, some(n))
		wantStore(t, s, l, 0)
	}
	s.Sync()
	wantStore(t, s, l, len(l))
	if !bytes.Equal(s.Bytes(), row(l...)) {
		t.Error("the bytes are other ones")
	}
}

func TestScriptOfTheChapter(t *testing.T) { // P8.2
	s := New(nil)
	wantAppend(t, s, []byte("a"), 0)
	wantAppend(t, s, []byte("b"), 6)
	s.Crash(6)
	wantStore(t, s, texts("a"), 1)
}

func TestAStoreOfMaxPageBytes(t *testing.T) { // P8.2
	whole := api.MaxPage - 7 // a frame of so many is all that a store may have
	for _, l := range [][][]byte{
		{some(whole)},
		{some(whole - 5), nil},
		{nil, some(whole - 5)},
		{some(30000), some(30000), some(api.MaxPage - 2*30007 - 6)},
	} {
		for synced := range len(l) + 1 {
			s := filled(t, l, synced)
			if s.Len() != api.MaxPage {
				t.Fatalf("Len = %d", s.Len())
			}
			for _, b := range [][]byte{nil, {0}, some(100), some(api.MaxPage), some(100000)} {
				wantRefused(t, s, b, api.ErrPageFull)
			}
			wantStore(t, s, l, synced)
			s.Off(true)
			wantRefused(t, s, nil, api.ErrPageOff) // told first
			s.Sync()
			wantStore(t, s, l, synced)
			s.Off(false)
			wantRefused(t, s, nil, api.ErrPageFull)
			s.Crash(0)
			wantStore(t, s, l[:synced], synced)
			for i := synced; i < len(l); i++ { // there is room again
				wantAppend(t, s, l[i], len(row(l[:i]...)))
			}
			wantStore(t, s, l, synced)
		}
	}
}

func TestAppendOfOneByteTooMuch(t *testing.T) { // P8.2
	for _, c := range []struct{ room, most int }{
		{0, -1}, {4, -1}, {5, 0}, {6, 1}, {7, 2}, {132, 127}, {133, 127}, {134, 128}, {135, 129}, {16389, 16383}, {16390, 16383}, {16391, 16384},
	} {
		l := [][]byte{some(api.MaxPage - 7 - c.room)}
		for synced := range 2 {
			s := filled(t, l, synced)
			for _, n := range []int{c.most + 1, c.most + 2, c.most + 300, api.MaxPage, api.MaxPage + 1, 1 << 20} {
				wantRefused(t, s, some(n), api.ErrPageFull)
				wantStore(t, s, l, synced)
			}
			if c.most >= 0 {
				wantAppend(t, s, some(c.most), api.MaxPage-c.room)
				wantStore(t, s, append(slices.Clone(l), some(c.most)), synced)
			}
		}
	}
	s := New(nil)
	wantRefused(t, s, some(api.MaxPage-6), api.ErrPageFull)
	wantAppend(t, s, some(api.MaxPage-7), 0)
}

func TestAStoreFullOfFramesOfNoBytes(t *testing.T) { // P8.2
	s := New(nil)
	for at := 0; at+5 <= api.MaxPage; at += 5 {
		wantAppend(t, s, nil, at)
	}
	wantRefused(t, s, nil, api.ErrPageFull)
	if s.Len() != api.MaxPage-1 || len(s.Frames()) != api.MaxPage/5 {
		t.Errorf("Len = %d, %d frames", s.Len(), len(s.Frames()))
	}
	for at := range api.MaxPage + 1 {
		if b, is := s.Read(at); is != (at%5 == 0 && at < s.Len()) || len(b) != 0 {
			t.Fatalf("Read(%d) = %x, %v", at, b, is)
		}
	}
}

func TestReadAtEveryPlace(t *testing.T) { // P8.2
	l := ordinary()
	at := places(l)
	for synced := range len(l) + 1 {
		s := filled(t, l, synced)
		for _, place := range []int{math.MinInt, -api.MaxPage, -6, -1, api.MaxPage, api.MaxPage + 1, 1 << 40, math.MaxInt} {
			if b, is := s.Read(place); is || b != nil {
				t.Errorf("Read(%d) = %x, %v", place, b, is)
			}
		}
		for place := range s.Len() + 10 {
			i, begins := slices.BinarySearch(at[:len(l)], place)
			b, is := s.Read(place)
			if is != begins || !is && b != nil || is && !bytes.Equal(b, l[i]) {
				t.Fatalf("Read(%d) = %x, %v", place, b, is)
			}
		}
	}
	if b, is := New(nil).Read(0); is || b != nil {
		t.Errorf("Read(0) of an empty store = %x, %v", b, is)
	}
}

func TestReadWithinAFrame(t *testing.T) { // P8.2
	l := [][]byte{[]byte("ahead"), row([]byte("x"), nil, []byte("yz"))}
	all, s := row(l...), filled(t, l, 1)
	for _, place := range []int{11, 17, 22} {
		if found, _ := Scan(all[place:]); len(found) == 0 {
			t.Fatalf("nothing looks like a frame at %d", place)
		}
		if b, is := s.Read(place); is || b != nil {
			t.Errorf("Read(%d) = %x, %v", place, b, is)
		}
	}
	wantStore(t, s, l, 1)
}

func TestSyncedAheadOfAndBehindSync(t *testing.T) { // P8.2
	s := New(nil)
	var l [][]byte
	synced := 0
	s.Sync()
	wantStore(t, s, nil, 0)
	for i, text := range ordinary() {
		wantAppend(t, s, text, len(row(l...)))
		l = append(l, text)
		wantStore(t, s, l, synced)
		if i%2 == 1 {
			synced = len(l)
			s.Sync()
			wantStore(t, s, l, synced)
			s.Sync()
			wantStore(t, s, l, synced)
		}
	}
}

func TestAStoreThatIsOff(t *testing.T) { // P8.1, P8.2
	l := ordinary()
	for synced := range len(l) + 1 {
		s := filled(t, l, synced)
		s.Off(false)
		wantStore(t, s, l, synced)
		for range 2 {
			s.Off(true)
			wantRefused(t, s, []byte("a"), api.ErrPageOff)
			wantRefused(t, s, nil, api.ErrPageOff)
			wantRefused(t, s, some(api.MaxPage), api.ErrPageOff)
			s.Sync()
			wantStore(t, s, l, synced) // what it has can be read
		}
		s.Off(false)
		wantStore(t, s, l, synced)
		s.Sync()
		wantStore(t, s, l, len(l))
		wantAppend(t, s, []byte("next"), len(row(l...)))
		wantStore(t, s, append(slices.Clone(l), []byte("next")), len(l))
	}
}

func TestACrashEndsOff(t *testing.T) { // P8.2
	l := ordinary()
	for _, keep := range []int{-1, 0, 3, 1 << 20} {
		for _, off := range []bool{true, false} {
			s := filled(t, l, len(l)-2)
			s.Off(off)
			s.Crash(keep)
			left := l[:len(l)-2]
			if keep > api.MaxPage {
				left = l
			}
			wantStore(t, s, left, len(left))
			wantAppend(t, s, []byte("next"), len(row(left...)))
			left = append(slices.Clone(left), []byte("next"))
			wantStore(t, s, left, len(left)-1)
			s.Sync()
			wantStore(t, s, left, len(left))
		}
	}
	s := New(nil)
	s.Off(true)
	s.Crash(0)
	wantAppend(t, s, nil, 0)
	New(nil).Off(true) // another store's
	wantAppend(t, s, nil, 5)
}

func TestCrashKeepsWholeFrames(t *testing.T) { // P8.2, P8.3
	l := ordinary()
	at := places(l)
	for synced := range len(l) + 1 {
		more := at[len(l)] - at[synced]
		for keep := -2; keep <= more+2; keep++ {
			left := synced
			for left < len(l) && at[left+1] <= at[synced]+keep {
				left++
			}
			s := filled(t, l, synced)
			s.Crash(keep)
			wantStore(t, s, l[:left], left)
		}
		for _, keep := range []int{more, more + 1, api.MaxPage, 1 << 40, math.MaxInt} {
			s := filled(t, l, synced)
			s.Crash(keep)
			wantStore(t, s, l, len(l))
		}
		for _, keep := range []int{0, -1, -5, -more, math.MinInt} {
			s := filled(t, l, synced)
			s.Crash(keep)
			wantStore(t, s, l[:synced], synced)
			s.Crash(math.MaxInt) // what is gone does not come again
			wantStore(t, s, l[:synced], synced)
		}
	}
}

func TestWhatIsLostIsNotThereBehindAnotherAppend(t *testing.T) { // P8.2, P8.3
	s := filled(t, texts("one", "two", "three"), 1)
	s.Crash(10)
	wantStore(t, s, texts("one", "two"), 2)
	wantAppend(t, s, []byte("four"), 16)
	wantStore(t, s, texts("one", "two", "four"), 2)
	s.Crash(0)
	wantStore(t, s, texts("one", "two"), 2)
	for range 3 {
		wantAppend(t, s, nil, 16)
		wantAppend(t, s, []byte("six"), 21)
		s.Crash(5)
		wantStore(t, s, texts("one", "two", ""), 3)
		s = New(s.Bytes()[:16])
	}
}

func TestAStoreOfABytesOfAnother(t *testing.T) { // P8.3
	l := ordinary()
	for synced := range len(l) + 1 {
		s := filled(t, l, synced)
		other := New(s.Bytes())
		wantStore(t, other, l[:synced], synced)
		wantStore(t, s, l, synced)
		s.Crash(0)
		if !bytes.Equal(s.Bytes(), other.Bytes()) {
			t.Error("they are others")
		}
		wantAppend(t, other, []byte("next"), len(row(l[:synced]...)))
		wantStore(t, s, l[:synced], synced) // each has its own
	}
}

func TestNoFrameThatWasSyncedIsLost(t *testing.T) { // P8.3
	next := chance()
	for range 60 {
		s, off := New(nil), false
		var l [][]byte
		synced := 0
		for range 60 {
			switch next.IntN(8) {
			case 0:
				s.Sync()
				if !off {
					synced = len(l)
				}
			case 1:
				keep := next.IntN(2*(s.Len()-s.Synced())+20) - 10
				at, stay := places(l), s.Synced()+keep
				for synced < len(l) && at[synced+1] <= stay {
					synced++
				}
				s.Crash(keep)
				l, off = l[:synced], false
			case 2:
				off = next.IntN(3) == 0
				s.Off(off)
			default:
				text := some(next.IntN([]int{1, 3, 130, 300, 20000}[next.IntN(5)]))
				switch at := len(row(l...)); {
				case off:
					wantRefused(t, s, text, api.ErrPageOff)
				case at+len(framed(text)) > api.MaxPage:
					wantRefused(t, s, text, api.ErrPageFull)
				default:
					wantAppend(t, s, text, at)
					l = append(l[:len(l):len(l)], text)
				}
			}
			wantStore(t, s, l, synced)
		}
	}
}

func TestWhateverBytesComeNothingPanics(t *testing.T) { // R1, P8.1
	next := chance()
	found := 0
	for range 100000 {
		var b []byte
		for range next.IntN(6) {
			switch next.IntN(3) {
			case 0:
				b = append(b, framed(some(next.IntN(4)))...)
			case 1:
				b = append(b, []byte{0, 1, 2, 0x7f, 0x80, 0xff, byte(next.IntN(256))}[next.IntN(7)])
			case 2:
				b = b[:len(b)-min(len(b), next.IntN(3))]
			}
		}
		l, n := Scan(b)
		found += len(l)
		if n > len(b) || !bytes.Equal(row(l...), b[:n]) {
			t.Fatalf("Scan(%x) = %x, %d", b, l, n)
		}
		if more, _ := Scan(b[n:]); len(more) > 0 {
			t.Fatalf("Scan(%x) = %x, %d: there are more", b, l, n)
		}
		wantStore(t, New(b), l, len(l))
	}
	if found < 1000 {
		t.Errorf("%d frames were found", found)
	}
}

func TestTheSameCallsTellTheSame(t *testing.T) { // R7
	l := ordinary()
	one, other := filled(t, l, 3), filled(t, l, 3)
	one.Crash(140)
	other.Crash(140)
	if !bytes.Equal(one.Bytes(), other.Bytes()) || one.Len() != other.Len() {
		t.Error("two stores are unlike")
	}
}

func TestWhatIsHandedInStays(t *testing.T) { // R5
	all := row(ordinary()...)
	room := append(bytes.Clone(all), "behind"...)
	Scan(room[:len(all)])
	s := New(room[:len(all)]) // has room behind it, that is not the store's
	s.Append(room[:3])
	s.Append(room[:0])
	s.Sync()
	s.Append([]byte("more"))
	s.Crash(3)
	if !bytes.Equal(room[:len(all)], all) || string(room[len(all):]) != "behind" {
		t.Error("it is other bytes now")
	}
}

func TestAStoreKeepsNothingThatIsHandedIn(t *testing.T) { // R6
	l := ordinary()
	b := row(l...)
	s := New(b)
	clear(b)
	wantStore(t, s, l, len(l))
	text := []byte("next")
	wantAppend(t, s, text, len(b))
	clear(text)
	l = append(l, []byte("next"))
	wantStore(t, s, l, len(l)-1)
	s.Sync()
	wantStore(t, s, l, len(l))
}

// spoil writes into b, and into the room behind it.
func spoil(b []byte) {
	for i := range b {
		b[i] ^= 0xff
	}
	_ = append(b, "spoilt"...)
}

func TestWhatIsToldIsTheCallersOwn(t *testing.T) { // R6
	l := ordinary()
	at := places(l)
	for _, synced := range []int{0, 4, len(l)} {
		s := filled(t, l, synced)
		read, _ := s.Read(at[3])
		held, frames := s.Bytes(), s.Frames()
		for i, b := range s.Frames() {
			again, _ := s.Read(at[i])
			spoil(b)
			spoil(again)
		}
		spoil(s.Bytes())
		wantStore(t, s, l, synced)
		wantAppend(t, s, []byte("next"), at[len(l)])
		s.Crash(0)
		if !bytes.Equal(read, l[3]) || !bytes.Equal(held, row(l[:synced]...)) || !same(frames, l) {
			t.Error("what was told is other bytes now")
		}
		wantStore(t, s, l[:synced], synced)
	}
}

func TestFramesOfOneAnswerShareNothing(t *testing.T) { // R6
	want := texts("one", "", "two", "three")
	b := row(want...)
	for i := range want {
		l, _ := Scan(b)
		spoil(l[i])
		for k, text := range l {
			if k != i && !bytes.Equal(text, want[k]) {
				t.Errorf("the frames %d and %d share", i, k)
			}
		}
		if !bytes.Equal(b, row(want...)) {
			t.Errorf("the frame %d shares with what was scanned", i)
		}
	}
}
