package record

import (
	"bytes"
	"hash/crc32"
	"math"
	"math/rand/v2"
	"slices"
	"strings"
	"testing"

	"carabiner/api"
)

const (
	mostId  = 1 << 40
	mostTag = 1 << 30
)

// made is a record.
func made(client, number int, data string, tags ...int) api.Record {
	return api.Record{Id: api.Id{Client: client, Number: number}, Tags: tags, Data: data}
}

// rights are records: ordinary ones, and those at the chapter's edges.
func rights() []api.Record {
	long := strings.Repeat("x", 1024)
	return []api.Record{
		made(0, 0, ""),
		made(1, 2, "ab", 3),
		made(1, 2, "ab", 3, 4, 300),
		made(300, 128, "\x00\x80\xff", 127, 128),
		made(7, 9, "grüße"),
		made(mostId, 0, ""), made(0, mostId, ""), made(mostId, mostId, long, 1, mostTag),
		made(mostId-1, mostId-1, long[1:], mostTag-1, mostTag),
		made(5, 5, "a", 1), made(5, 5, "a", mostTag), made(5, 5, "a", 1, 2),
		made(5, 5, "a", 1, 2, 3, 4, 5, 6, 7), made(5, 5, "a", 1, 2, 3, 4, 5, 6, 7, 8),
		made(5, 5, "a", mostTag-7, mostTag-6, mostTag-5, mostTag-4, mostTag-3, mostTag-2, mostTag-1, mostTag),
		{Id: api.Id{Client: 1}, Tags: []int{}},
		made(0, 0, long), made(0, 0, strings.Repeat("\x80", 1024)), made(0, 0, long[:127]), made(0, 0, long[:128]),
	}
}

// wrongs are no records, each by one thing alone.
func wrongs() []api.Record {
	long := strings.Repeat("x", 1025)
	l := []api.Record{
		made(1, 1, "a", 1, 2, 3, 4, 5, 6, 7, 8, 9), made(1, 1, "a", make([]int, 100)...),
		made(1, 1, long), made(1, 1, long+long), made(1, 1, strings.Repeat("y", api.MaxPage+1)),
		made(1, 1, "a", 2, 1), made(1, 1, "a", 1, 3, 2), made(1, 1, "a", 3, 1, 2), made(1, 1, "a", 1, 2, 3, 4, 5, 6, 8, 7),
		made(1, 1, "a", 1, 1), made(1, 1, "a", 5, 7, 7), made(1, 1, "a", 1, 2, 1), made(1, 1, "a", mostTag, mostTag),
		made(1, 1, "a", 0), made(1, 1, "a", 0, 1), made(1, 1, "a", 1, 0), made(1, 1, "a", 0, 0),
		made(1, 1, "a", 1, mostTag+1), made(1, 1, "a", -1, 1), made(1, 1, "a", mostTag+1, mostTag+2),
	}
	for _, n := range []int{-1, -mostId, mostId + 1, 1 << 62, 1<<62 + 1, math.MinInt, math.MaxInt} {
		l = append(l, made(n, 1, "a"), made(1, n, "a"), made(n, n, "a"))
	}
	for _, n := range []int{-1, mostTag + 1, mostId, 1<<62 + 1, math.MinInt, math.MaxInt} {
		l = append(l, made(1, 1, "a", n))
	}
	return l
}

// chance tells always the same numbers.
func chance() *rand.Rand { return rand.New(rand.NewPCG(4, 4)) }

// someRecord is a right one.
func someRecord(next *rand.Rand) api.Record {
	r := made(next.IntN(300), next.IntN(mostId+1), "")
	tag := 0
	for range next.IntN(9) {
		tag += 1 + next.IntN([]int{1, 3, 200, 1 << 26}[next.IntN(4)])
		r.Tags = append(r.Tags, tag)
	}
	data := make([]byte, next.IntN([]int{2, 10, 200, 1025}[next.IntN(4)]))
	for i := range data {
		data[i] = byte(next.IntN(256))
	}
	r.Data = string(data)
	return r
}

// number writes a number just as pack's chapter tells it.
func number(n int) string {
	s := ""
	for n >= 128 {
		s += string([]byte{byte(n%128 + 128)})
		n /= 128
	}
	return s + string([]byte{byte(n)})
}

// plain is what the chapter tells of a record's bytes, ahead of the sum; also of one that is not right.
func plain(r api.Record) string {
	s := number(r.Id.Client) + number(r.Id.Number) + number(len(r.Tags))
	for _, tag := range r.Tags {
		s += number(tag)
	}
	return s + number(len(r.Data)) + r.Data
}

// summed is s, and a right sum behind it.
func summed(s string) []byte {
	n := crc32.ChecksumIEEE([]byte(s))
	return append([]byte(s), byte(n), byte(n>>8), byte(n>>16), byte(n>>24))
}

// alike tells whether two records have the same fields, without asking Same.
func alike(a, b api.Record) bool {
	return a.Id.Client == b.Id.Client && a.Id.Number == b.Id.Number && slices.Equal(a.Tags, b.Tags) && a.Data == b.Data
}

// wantRecord fails, if b is not that record.
func wantRecord(t *testing.T, b []byte, want api.Record) {
	t.Helper()
	if r, err := Decode(b); err != api.OK || !alike(r, want) {
		t.Fatalf("Decode(%x) = %v, %d, want %v", b, r, err, want)
	}
}

// wantRefused fails, if b is a record, or is refused in another way.
func wantRefused(t *testing.T, b []byte, want api.Errno) {
	t.Helper()
	if r, err := Decode(b); err != want || r.Tags != nil || !alike(r, api.Record{}) {
		t.Fatalf("Decode(%x) = %v, %d, want error %d", b, r, err, want)
	}
}

func TestRightRecords(t *testing.T) { // the chapter's word record
	for i, r := range rights() {
		if !Right(r) {
			t.Errorf("%d: %v is not right", i, r)
		}
	}
	for i, r := range wrongs() {
		if Right(r) {
			t.Errorf("%d: %v is right", i, r)
		}
	}
	if !Right(api.Record{}) {
		t.Error("the zero record is not right")
	}
}

func TestOneFieldDecides(t *testing.T) { // the chapter's word record
	for n, want := range map[int]bool{0: true, 1: true, mostId - 1: true, mostId: true, mostId + 1: false, -1: false, math.MinInt: false, math.MaxInt: false} {
		if Right(made(n, 0, "")) != want || Right(made(0, n, "")) != want {
			t.Errorf("Client or Number %d: want %v", n, want)
		}
	}
	for n, want := range map[int]bool{0: false, 1: true, mostTag - 1: true, mostTag: true, mostTag + 1: false, -1: false, math.MinInt: false, math.MaxInt: false} {
		if Right(made(0, 0, "", n)) != want {
			t.Errorf("tag %d: want %v", n, want)
		}
	}
	for n := range 12 {
		tags := make([]int, n)
		for i := range tags {
			tags[i] = 10 * (i + 1)
		}
		if Right(made(0, 0, "", tags...)) != (n <= 8) {
			t.Errorf("of %d tags: %v", n, n > 8)
		}
		for i := 1; i < min(n, 8); i++ {
			l := slices.Clone(tags[:min(n, 8)])
			l[i] = l[i-1]
			if Right(made(0, 0, "", l...)) {
				t.Errorf("%v is right", l)
			}
			l[i]++
			if !Right(made(0, 0, "", l...)) {
				t.Errorf("%v is not right", l)
			}
			l[i] -= 2
			if Right(made(0, 0, "", l...)) {
				t.Errorf("%v is right", l)
			}
		}
	}
	for _, n := range []int{0, 1, 1023, 1024, 1025, 2000} {
		if Right(made(0, 0, strings.Repeat("\xc3", n))) != (n <= 1024) {
			t.Errorf("of %d bytes: %v", n, n > 1024)
		}
	}
}

func TestEncodeOfKnownRecords(t *testing.T) { // P4.1
	for _, c := range []struct {
		r    api.Record
		want string
	}{
		{made(0, 0, ""), "\x00\x00\x00\x00"},
		{made(1, 2, "ab", 3), "\x01\x02\x01\x03\x02ab"},
		{made(2, 1, "\x00", 3, 4, 300), "\x02\x01\x03\x03\x04\xac\x02\x01\x00"},
		{made(300, 128, "", 127, mostTag), "\xac\x02\x80\x01\x02\x7f\x80\x80\x80\x80\x04\x00"},
		{made(mostId, mostId-1, "z"), "\x80\x80\x80\x80\x80\x20\xff\xff\xff\xff\xff\x1f\x00\x01z"},
		{made(9, 9, "", 1, 2, 3, 4, 5, 6, 7, 8), "\x09\x09\x08\x01\x02\x03\x04\x05\x06\x07\x08\x00"},
		{made(0, 1, strings.Repeat("x", 1024)), "\x00\x01\x00\x80\x08" + strings.Repeat("x", 1024)},
	} {
		want := summed(c.want)
		if b, err := Encode(c.r); err != api.OK || !bytes.Equal(b, want) {
			t.Errorf("Encode(%v) = %x, %d, want %x", c.r, b, err, want)
		}
		wantRecord(t, want, c.r)
	}
}

func TestTheSumStandsBehindLowestFirst(t *testing.T) { // P4.1
	b, err := Encode(made(0, 0, ""))
	if err != api.OK || string(b) != "\x00\x00\x00\x00\x1c\xdf\x44\x21" {
		t.Errorf("Encode of the zero record = %x, %d", b, err)
	}
	wantRecord(t, []byte("\x00\x00\x00\x00\x1c\xdf\x44\x21"), api.Record{})
	wantRefused(t, []byte("\x00\x00\x00\x00\x21\x44\xdf\x1c"), api.ErrRecordSum)
}

func TestEncodeRefuses(t *testing.T) { // P4.1
	for i, r := range wrongs() {
		if b, err := Encode(r); err != api.ErrRecordForm || len(b) != 0 {
			t.Errorf("%d: Encode(%v) = %x, %d", i, r, b, err)
		}
	}
}

func TestDecodeRefusesAWrongSum(t *testing.T) { // P4.1
	wantRefused(t, nil, api.ErrRecordSum)
	for _, s := range []string{
		"", "\x00", "\x00\x00\x00", // fewer bytes than a sum has
		"\x00\x00\x00\x01", "\x00\x00\x00\x00\x00", "\x00\x00\x00\x00\x00\x00\x00\x00",
		"\xff", "no record", strings.Repeat("\x80", 100),
	} {
		wantRefused(t, []byte(s), api.ErrRecordSum)
	}
	for _, r := range rights() {
		if s := plain(r); s != "\x00\x00\x00\x00" { // which is a right sum of nothing
			wantRefused(t, []byte(s), api.ErrRecordSum)
		}
		wantRefused(t, append(summed(plain(r)), 0), api.ErrRecordSum)
		wantRefused(t, append([]byte{0}, summed(plain(r))...), api.ErrRecordSum)
	}
	for _, r := range wrongs() { // the sum is asked first
		wantRefused(t, append([]byte("\x80"+r.Data), 1, 2, 3, 4), api.ErrRecordSum)
	}
}

func TestDecodeRefusesARightSumOfNoRecord(t *testing.T) { // P4.1
	for _, s := range []string{
		"",
		"\x00", "\x00\x00", "\x00\x00\x00", // no more behind the Client, the Number, how many tags
		"\x80", "\x00\x80", "\x00\x00\x80", "\x00\x00\x00\x80", // within a number
		"\x00\x00\x01\x05", "\x00\x00\x02\x05\x00", "\x00\x00\x01\x85", // fewer tags than there should be
		"\x00\x00\x00\x01", "\x00\x00\x00\x03ab", // fewer bytes of Data
		"\x00\x00\x00\x00\x00", "\x00\x00\x00\x02abc", // something behind
		"\x80\x00\x00\x00\x00", "\x00\x80\x00\x00\x00", "\x00\x00\x80\x00\x00", "\x00\x00\x00\x80\x00", // not as short as can be
		"\x00\x00\x01\x85\x00\x00", "\x00\x00\x00\x81\x00a",
		"\x81\x80\x80\x80\x80\x20\x00\x00\x00", "\x00\x81\x80\x80\x80\x80\x20\x00\x00", // 2^40 and one more
		"\x00\x00\x01\x81\x80\x80\x80\x04\x00", // 2^30 and one more
		"\x00\x00\x01\x00\x00",                 // the tag 0
		"\x00\x00\x02\x05\x05\x00",             // twice
		"\x00\x00\x02\x05\x04\x00",             // not rising
		"\x00\x00\x09\x01\x02\x03\x04\x05\x06\x07\x08\x09\x00",
		"\x00\x00\x00\x81\x08" + strings.Repeat("x", 1025),
		"\xff\xff\xff\xff\xff\xff\xff\xff\xff\xff\x00\x00\x00", "\x00\x00\xff\xff\xff\xff\xff\xff\xff\xff\x3f\x00",
		"\x00\x00\x00\xff\xff\xff\xff\xff\xff\xff\xff\x3f",
		"no record",
	} {
		wantRefused(t, summed(s), api.ErrRecordForm)
	}
}

func TestDecodeRefusesWhatEncodeRefuses(t *testing.T) { // P4.1
	for _, r := range wrongs() {
		if r.Id.Client < 0 || r.Id.Number < 0 || len(r.Tags) > 0 && slices.Min(r.Tags) < 0 {
			continue // there are no bytes of it
		}
		wantRefused(t, summed(plain(r)), api.ErrRecordForm)
	}
}

func TestDecodeTakesNeitherFewerBytesNorMore(t *testing.T) { // P4.1
	for _, r := range rights() {
		s := plain(r)
		for n := range s {
			wantRefused(t, summed(s[:n]), api.ErrRecordForm)
		}
		for _, behind := range []string{"\x00", "\x01", "\x80", "behind", s} {
			wantRefused(t, summed(s+behind), api.ErrRecordForm)
		}
	}
}

func TestWhatIsDecodedIsEncodedSo(t *testing.T) { // P4.1, R1
	next := chance()
	records := 0
	for range 200000 {
		b := make([]byte, next.IntN(14))
		for i := range b {
			b[i] = []byte{0, 1, 2, 3, 8, 9, 0x7f, 0x80, byte(next.IntN(256))}[next.IntN(9)]
		}
		b = summed(string(b))
		r, err := Decode(b)
		if err != api.OK {
			wantRefused(t, b, api.ErrRecordForm)
			continue
		}
		records++
		if again, err := Encode(r); err != api.OK || !bytes.Equal(again, b) {
			t.Fatalf("Decode(%x) = %v, which is encoded %x, %d", b, r, again, err)
		}
	}
	if records < 1000 {
		t.Errorf("%d records", records)
	}
}

func TestHas(t *testing.T) { // P4.2
	r := made(1, 2, "ab", 3, 5, mostTag)
	for tag, want := range map[int]bool{0: true, 3: true, 5: true, mostTag: true, 1: false, 2: false, 4: false, 6: false, -1: false, -3: false, mostTag + 1: false, math.MinInt: false, math.MaxInt: false} {
		if Has(r, tag) != want {
			t.Errorf("Has(%v, %d) = %v", r, tag, !want)
		}
	}
	for _, r := range rights() {
		for tag := range 10 {
			if Has(r, tag) != (tag == 0 || slices.Contains(r.Tags, tag)) {
				t.Errorf("Has(%v, %d) = %v", r, tag, Has(r, tag))
			}
		}
	}
	if !Has(api.Record{}, 0) || Has(api.Record{}, 1) || Has(api.Record{}, -1) {
		t.Error("Has of a record without tags")
	}
}

func TestHasOfWhatIsNoRecord(t *testing.T) { // P4.2
	for _, r := range wrongs() {
		for _, tag := range append(slices.Clone(r.Tags), 0) {
			if !Has(r, tag) {
				t.Errorf("Has(%v, %d) = false", r, tag)
			}
		}
		if Has(r, 77) {
			t.Errorf("Has(%v, 77) = true", r)
		}
	}
}

func TestSame(t *testing.T) { // P4.2
	r := made(1, 2, "ab", 3, 4)
	if !Same(r, made(1, 2, "ab", 3, 4)) {
		t.Error("one record is not the same")
	}
	for i, other := range []api.Record{
		{},
		made(2, 1, "ab", 3, 4), made(0, 2, "ab", 3, 4), made(1, 3, "ab", 3, 4),
		made(1, 2, "ab"), made(1, 2, "ab", 3), made(1, 2, "ab", 4), made(1, 2, "ab", 3, 5), made(1, 2, "ab", 3, 4, 5), made(1, 2, "ab", 4, 3),
		made(1, 2, "", 3, 4), made(1, 2, "a", 3, 4), made(1, 2, "ac", 3, 4), made(1, 2, "aB", 3, 4), made(1, 2, "ab\x00", 3, 4),
	} {
		if Same(r, other) || Same(other, r) {
			t.Errorf("%d: %v is the same as %v", i, other, r)
		}
	}
	if !Same(api.Record{}, api.Record{Tags: []int{}}) || !Same(api.Record{Tags: []int{}}, api.Record{}) { // R3
		t.Error("an empty list is not as good as none")
	}
}

func TestSameOfAll(t *testing.T) { // P4.2
	all := append(rights(), wrongs()...)
	for i, a := range all {
		for k, b := range all {
			if Same(a, b) != alike(a, b) || i == k && !Same(a, b) {
				t.Errorf("Same(%v, %v) = %v", a, b, Same(a, b))
			}
		}
	}
}

func TestLess(t *testing.T) { // P4.2
	for _, c := range []struct {
		a, b api.Seq
		want bool
	}{
		{api.Seq{Term: 1, Pos: 9}, api.Seq{Term: 2, Pos: 0}, true},
		{api.Seq{Term: 2, Pos: 0}, api.Seq{Term: 1, Pos: 9}, false},
		{api.Seq{Term: 1, Pos: 1}, api.Seq{Term: 2, Pos: 1}, true},
		{api.Seq{Term: 1, Pos: 1}, api.Seq{Term: 1, Pos: 2}, true},
		{api.Seq{Term: 1, Pos: 2}, api.Seq{Term: 1, Pos: 1}, false},
		{api.Seq{Term: 1, Pos: 1}, api.Seq{Term: 1, Pos: 1}, false},
		{api.Seq{}, api.Seq{}, false},
		{api.Seq{}, api.Seq{Pos: 1}, true},
		{api.Seq{Term: -1, Pos: 5}, api.Seq{Term: 0, Pos: -5}, true},
		{api.Seq{Term: 3, Pos: -1}, api.Seq{Term: 3, Pos: 0}, true},
		{api.Seq{Term: math.MinInt, Pos: math.MaxInt}, api.Seq{Term: math.MaxInt, Pos: math.MinInt}, true},
		{api.Seq{Term: math.MaxInt, Pos: math.MinInt}, api.Seq{Term: math.MinInt, Pos: math.MaxInt}, false},
		{api.Seq{Term: 1, Pos: math.MinInt}, api.Seq{Term: 1, Pos: math.MaxInt}, true},
	} {
		if Less(c.a, c.b) != c.want {
			t.Errorf("Less(%v, %v) = %v", c.a, c.b, !c.want)
		}
	}
}

func TestTagged(t *testing.T) { // P4.2
	l := []api.Record{made(1, 1, "a", 3), made(1, 2, "b"), made(1, 3, "c", 3, 4), made(1, 4, "d", 4), made(1, 5, "e", 1, 2, 3)}
	for _, c := range []struct {
		tag  int
		want []int
	}{
		{0, []int{0, 1, 2, 3, 4}}, {3, []int{0, 2, 4}}, {4, []int{2, 3}}, {1, []int{4}}, {2, []int{4}},
		{5, nil}, {-1, nil}, {-3, nil}, {mostTag, nil}, {mostTag + 1, nil}, {math.MinInt, nil}, {math.MaxInt, nil},
	} {
		if got := Tagged(l, c.tag); !slices.Equal(got, c.want) {
			t.Errorf("Tagged(%d) = %v, want %v", c.tag, got, c.want)
		}
	}
	for _, l := range [][]api.Record{nil, {}} {
		if got := Tagged(l, 0); len(got) != 0 {
			t.Errorf("Tagged of nothing = %v", got)
		}
	}
}

func TestTaggedAreThoseThatHaveIt(t *testing.T) { // P4.2
	next := chance()
	l := append(rights(), wrongs()...)
	for range 300 {
		l = append(l, someRecord(next))
	}
	for _, tag := range []int{0, 1, 2, 3, 4, 9, -1, mostTag, mostTag + 1, math.MinInt} {
		var want []int
		for i, r := range l {
			if tag == 0 || slices.Contains(r.Tags, tag) {
				want = append(want, i)
			}
		}
		if got := Tagged(l, tag); !slices.Equal(got, want) {
			t.Errorf("Tagged(%d) = %v, want %v", tag, got, want)
		}
	}
}

func TestDecodeOfEncode(t *testing.T) { // P4.3
	next := chance()
	l := rights()
	for range 3000 {
		l = append(l, someRecord(next))
	}
	for _, r := range l {
		b, err := Encode(r)
		if err != api.OK || !bytes.Equal(b, summed(plain(r))) {
			t.Fatalf("Encode(%v) = %x, %d", r, b, err)
		}
		wantRecord(t, b, r)
	}
}

func TestEachByteTurned(t *testing.T) { // P4.3
	for _, r := range []api.Record{{}, made(1, 2, "ab", 3), made(300, mostId, "some data", 1, 5, mostTag)} {
		b, _ := Encode(r)
		for at := range b {
			for turn := 1; turn < 256; turn++ {
				c := bytes.Clone(b)
				c[at] ^= byte(turn)
				wantRefused(t, c, api.ErrRecordSum)
			}
		}
	}
	for _, r := range rights() { // long ones too
		b, _ := Encode(r)
		for at := range b {
			b[at] ^= 0x10
			wantRefused(t, b, api.ErrRecordSum)
			b[at] ^= 0x10
		}
	}
}

func TestLessIsAnOrder(t *testing.T) { // P4.3
	var l []api.Seq
	for _, term := range []int{math.MinInt, -1, 0, 1, 2, math.MaxInt} {
		for _, pos := range []int{math.MinInt, -1, 0, 1, 2, math.MaxInt} {
			l = append(l, api.Seq{Term: term, Pos: pos}) // rising
		}
	}
	for i, a := range l {
		for k, b := range l {
			if Less(a, b) != (i < k) {
				t.Errorf("Less(%v, %v) = %v", a, b, Less(a, b))
			}
		}
	}
}

func TestWhatIsHandedInStays(t *testing.T) { // R5
	whole := []int{3, 5, 7, 9, 4}
	r := made(1, 2, "ab", whole[:3]...)
	r.Tags = whole[:3] // has room behind it, that is not the record's
	l := []api.Record{r, r}
	Right(r)
	b, _ := Encode(r)
	Has(r, 4)
	Same(r, l[1])
	Tagged(l, 5)
	if !slices.Equal(whole, []int{3, 5, 7, 9, 4}) || !alike(l[0], r) || !alike(l[1], r) {
		t.Errorf("they are %v, %v now", whole, l)
	}
	room := append(bytes.Clone(b), "behind"...)
	Decode(room[:len(b)])
	Decode(room)
	if !bytes.Equal(room[:len(b)], b) || string(room[len(b):]) != "behind" {
		t.Errorf("the bytes are %x now", room)
	}
}

func TestWhatIsToldIsTheCallersOwn(t *testing.T) { // R6
	r := made(1, 2, "ab", 3, 5)
	b, _ := Encode(r)
	other, _ := Encode(r)
	one, _ := Decode(b)
	two, _ := Decode(b)
	r.Tags[0] = 77
	clear(b)
	one.Tags[1] = 78
	_ = append(one.Tags, 79)
	if !bytes.Equal(other, summed(plain(made(1, 2, "ab", 3, 5)))) || !alike(two, made(1, 2, "ab", 3, 5)) || !alike(one, made(1, 2, "ab", 3, 78)) {
		t.Errorf("they share: %x, %v, %v", other, one, two)
	}
	l := []api.Record{two, two}
	numbers := Tagged(l, 3)
	again := Tagged(l, 3)
	numbers[0] = 80
	l[1] = api.Record{}
	if !slices.Equal(again, []int{0, 1}) || !alike(l[0], two) {
		t.Errorf("numbers share: %v, %v", again, l)
	}
}
