package litcode

import (
	"bytes"
	"encoding/hex"
	"fmt"
	"math"
	"slices"
	"strconv"
	"strings"
	"testing"

	"pemmican/cursor"
	"pemmican/huff"
)

// wrongLengths are lists that are no lengths, or lengths that aren't whole.
var wrongLengths = [][]int{
	nil,
	{},
	{0},
	{0, 0, 0},
	{2},
	{11},
	{12},
	{-1},
	{0, 2},
	{1, 2},
	{1, 0, 2},
	{1, 1, 1},
	{1, 1, 0, 11},
	{1, 2, 3},
	{1, 2, 2, 11},
	{1, 2, 2, -1},
	{1, 2, 2, 12},
	{-1, 1, 1},
	{1, 1, 16},
	{1, 1 + 1<<32},
	{math.MinInt},
	{math.MaxInt, 1},
	make([]int, 256),
	make([]int, 257),
	append([]int{1, 2, 2}, make([]int, 254)...),
	append(make([]int, 256), 1),
	slices.Repeat([]int{8}, 255),
	slices.Repeat([]int{8}, 257),
	slices.Repeat([]int{9}, 512),
	slices.Repeat([]int{11}, 2048),
}

// someWhole are lengths that are whole.
var someWhole = [][]int{
	{1, 2, 2},
	{1},
	{0, 1},
	{0, 0, 1},
	{1, 1},
	{1, 0, 1},
	{2, 2, 1},
	{2, 1, 2},
	{2, 2, 2, 2},
	{0, 2, 0, 2, 2, 0, 2},
	{3, 1, 0, 3, 2},
	{1, 2, 3, 3},
	{3, 3, 3, 3, 3, 3, 3, 3},
	{1, 2, 3, 4, 5, 6, 7, 8, 9, 10, 11, 11},
	{11, 11, 10, 9, 8, 7, 6, 5, 4, 3, 2, 1},
	slices.Repeat([]int{8}, 256),
	append(make([]int, 255), 1),
	append(append([]int{1}, make([]int, 254)...), 1),
}

// tables are lengths, and these as bytes, worked out beside the program.
var tables = []struct {
	lengths []int
	text    string
}{
	{[]int{1, 2, 2}, "\x02\x21\x02"},
	{[]int{1, 2, 2, 0}, "\x02\x21\x02"},
	{[]int{1, 2, 2, 0, 0, 0}, "\x02\x21\x02"},
	{[]int{0, 1, 2, 2}, "\x03\x10\x22"},
	{[]int{1}, "\x00\x01"},
	{[]int{1, 0}, "\x00\x01"},
	{append([]int{1}, make([]int, 255)...), "\x00\x01"},
	{[]int{0, 1}, "\x01\x10"},
	{[]int{0, 0, 1, 0}, "\x02\x00\x01"},
	{[]int{1, 1}, "\x01\x11"},
	{[]int{1, 0, 0, 0, 1}, "\x04\x01\x00\x01"},
	{[]int{3, 1, 0, 3, 2}, "\x04\x13\x30\x02"},
	{[]int{1, 2, 3, 4, 5, 6, 7, 8, 9, 10, 11, 11}, "\x0b\x21\x43\x65\x87\xa9\xbb"},
	{[]int{11, 11, 10, 9, 8, 7, 6, 5, 4, 3, 2, 1}, "\x0b\xbb\x9a\x78\x56\x34\x12"},
	{slices.Repeat([]int{8}, 256), "\xff" + strings.Repeat("\x88", 128)},
	{append(make([]int, 255), 1), "\xff" + strings.Repeat("\x00", 127) + "\x10"},
	{append(make([]int, 254), 1, 0), "\xfe" + strings.Repeat("\x00", 127) + "\x01"},
}

// wrongTables are bytes that are no lengths.
var wrongTables = []string{
	"",
	// Too few bytes.
	"\x00",
	"\x02\x21",
	"\x02",
	"\x03\x10",
	"\xff",
	"\xff" + strings.Repeat("\x88", 127),
	"\xfe" + strings.Repeat("\x00", 127),
	// Not whole.
	"\x00\x02",
	"\x00\x0b",
	"\x00\x0c",
	"\x00\x0f",
	"\x01\x21",
	"\x01\x1f",
	"\x02\x11\x01",
	"\x02\x21\x03",
	"\x03\x22\x12",
	"\x03\x21\xc2",
	"\xfe" + strings.Repeat("\x88", 127) + "\x08",
	// The last one is 0.
	"\x00\x00",
	"\x01\x01",
	"\x01\x00",
	"\x02\x11\x00",
	"\x03\x21\x02",
	"\x05\x21\x02\x00",
	"\xff\x21\x02" + strings.Repeat("\x00", 126),
	"\xff" + strings.Repeat("\x00", 127) + "\x01",
	// A second one, where there is none.
	"\x00\x11",
	"\x00\x10",
	"\x00\xf1",
	"\x02\x21\x12",
	"\x02\x21\x22",
	"\x02\x11\x10",
	"\xfe" + strings.Repeat("\x00", 127) + "\x11",
	"\xfe" + strings.Repeat("\x00", 127) + "\x81",
}

// codes are bytes, and these in code, worked out beside the program.
var codes = []struct {
	lengths []int
	b       string
	text    string
}{
	{[]int{1, 2, 2}, "\x00\x01\x02", "\x1a"},
	{[]int{1, 2, 2}, "", ""},
	{[]int{1, 2, 2}, "\x00", "\x00"},
	{[]int{1, 2, 2}, "\x01", "\x01"},
	{[]int{1, 2, 2}, "\x02", "\x03"},
	{[]int{1, 2, 2}, "\x02\x02\x02\x02", "\xff"},
	{[]int{1, 2, 2}, "\x02\x02\x02\x02\x00", "\xff\x00"},
	{[]int{1, 2, 2}, "\x02\x02\x02\x00\x01", "\xbf\x00"},
	{[]int{1, 2, 2}, "\x02\x02\x02\x00\x02", "\xbf\x01"},
	{[]int{1, 2, 2, 0, 0}, "\x00\x01\x02", "\x1a"},
	{[]int{1}, "", ""},
	{[]int{1}, "\x00\x00\x00\x00\x00\x00\x00\x00", "\x00"},
	{[]int{1}, "\x00\x00\x00\x00\x00\x00\x00\x00\x00", "\x00\x00"},
	{[]int{0, 1}, "\x01\x01", "\x00"},
	{[]int{3, 1, 0, 3, 2}, "\x00\x01\x03\x04", "\xf3\x00"},
	{[]int{1, 2, 3, 4, 5, 6, 7, 8, 9, 10, 11, 11}, "\x0a", "\xff\x03"},
	{[]int{1, 2, 3, 4, 5, 6, 7, 8, 9, 10, 11, 11}, "\x0b\x0a", "\xff\xff\x1f"},
	{[]int{1, 2, 3, 4, 5, 6, 7, 8, 9, 10, 11, 11}, "\x07", "\x7f"},
	{slices.Repeat([]int{8}, 256), "\x00\x01\x80\xff\xfe\x61", "\x00\x80\x01\xff\x7f\x86"},
	{append(make([]int, 255), 1), "\xff\xff", "\x00"},
	{append(append([]int{1}, make([]int, 254)...), 1), "\xff\x00\xff\xff", "\x0d"},
}

// A dice gives the same numbers in every run.
type dice uint64

func (d *dice) next() int {
	*d = *d*6364136223846793005 + 1442695040888963407
	return int(*d >> 33)
}

// whole makes lengths that are whole, and may end with noughts.
func (d *dice) whole() []int {
	l := []int{1, 1}
	for range d.next() % (1 + d.next()%200) {
		// A code that is cut in two leaves lengths whole.
		if at := d.next() % len(l); l[at] < 11 {
			l[at]++
			l = slices.Insert(l, d.next()%len(l), l[at])
		}
	}
	for range d.next() % (257 - len(l)) {
		l = slices.Insert(l, d.next()%(len(l)+1), 0)
	}
	return l
}

// bytes makes n bytes that have a code.
func (d *dice) bytes(lengths []int, n int) []byte {
	var have []byte
	for c, n := range lengths {
		if n > 0 {
			have = append(have, byte(c))
		}
	}
	b := make([]byte, n)
	for i := range b {
		b[i] = have[d.next()%len(have)]
	}
	return b
}

// text makes a text of n bytes.
func (d *dice) text(n int) string {
	b := make([]byte, n)
	for i := range b {
		b[i] = byte(d.next() >> (d.next() % 8))
	}
	return string(b)
}

// share tells how much of all a code of length n takes, in parts of 2^11.
func share(n int) int {
	return int(math.Pow(2, float64(11-n)))
}

// fill tells whether lengths are whole.
func fill(lengths []int) bool {
	sum, used := 0, 0
	for _, n := range lengths {
		if n < 0 || n > 11 {
			return false
		}
		if n > 0 {
			sum += share(n)
			used++
		}
	}
	return len(lengths) <= 256 && (sum == 2048 || used == 1 && sum == 1024)
}

// digits tells the codes of lengths that are whole as texts of 0 and 1, "" of those that have none: each begins where those ahead of it end.
func digits(lengths []int) []string {
	l := make([]string, len(lengths))
	at := 0
	for n := 1; n <= 11; n++ {
		for i := range lengths {
			if lengths[i] == n {
				l[i] = fmt.Sprintf("%011b", at)[:n]
				at += share(n)
			}
		}
	}
	return l
}

// turned answers s with its last byte first.
func turned(s string) string {
	b := []byte(s)
	slices.Reverse(b)
	return string(b)
}

// apart tells s's bits as 0 and 1, the lowest one of each byte first.
func apart(s string) string {
	t := ""
	for _, c := range []byte(s) {
		t += turned(fmt.Sprintf("%08b", c))
	}
	return t
}

// together makes bytes of 0 and 1.
func together(t string) string {
	s := ""
	for t != "" {
		n := min(8, len(t))
		c, _ := strconv.ParseUint(turned(t[:n]), 2, 8)
		s += string([]byte{byte(c)})
		t = t[n:]
	}
	return s
}

// tabled tells lengths as bytes, by the digits of base 16.
func tabled(lengths []int) (string, bool) {
	if !fill(lengths) {
		return "", false
	}
	t := ""
	for _, n := range lengths {
		t += strconv.FormatInt(int64(n), 16)
	}
	t = strings.TrimRight(t, "0")
	text := fmt.Sprintf("%02x", len(t)-1)
	t += "0"
	for i := 0; i+1 < len(t); i += 2 {
		text += t[i+1:i+2] + t[i:i+1]
	}
	s, err := hex.DecodeString(text)
	return string(s), err == nil
}

// found tells the lengths that s begins with, and how many bytes they take: there are some, if they have just these.
func found(s string) ([]int, int, bool) {
	if s == "" {
		return nil, 0, false
	}
	n := int(s[0]) + 1
	size := 1 + (n+1)/2
	if len(s) < size {
		return nil, 0, false
	}
	var l []int
	for _, c := range []byte(s[1:size]) {
		l = append(l, int(c%16), int(c/16))
	}
	l = l[:n]
	text, ok := tabled(l)
	if !ok || text != s[:size] {
		return nil, 0, false
	}
	return l, size, true
}

// coded tells b in code, digit by digit.
func coded(lengths []int, b []byte) (string, bool) {
	if !fill(lengths) {
		return "", false
	}
	all := digits(lengths)
	t := ""
	for _, c := range b {
		if int(c) >= len(all) || all[c] == "" {
			return "", false
		}
		t += all[c]
	}
	return together(t), true
}

// decoded tells the n bytes whose code s is: those that its digits begin with, if they have just this code.
func decoded(lengths []int, s string, n int) ([]byte, bool) {
	if !fill(lengths) || n < 0 || n > 1<<20 {
		return nil, false
	}
	all := digits(lengths)
	t := apart(s)
	b := []byte{}
	for len(b) < n {
		c := slices.IndexFunc(all, func(code string) bool { return code != "" && strings.HasPrefix(t, code) })
		if c < 0 {
			return nil, false
		}
		b = append(b, byte(c))
		t = t[len(all[c]):]
	}
	text, ok := coded(lengths, b)
	return b, ok && text == s
}

// table fails if Table doesn't answer so.
func table(t *testing.T, lengths []int, text string, is bool) {
	t.Helper()
	if got, ok := Table(lengths); got != text || ok != is {
		t.Fatalf("Table(%v): %x, %v, not %x, %v", lengths, got, ok, text, is)
	}
}

// read fails if Read doesn't answer as it must of s, or doesn't leave the reader where it must.
func read(t *testing.T, s string) {
	t.Helper()
	want, size, is := found(s)
	for _, ahead := range []string{"", "\x02\x21"} {
		r := cursor.New(ahead + s)
		r.Raw(len(ahead))
		got, ok := Read(r)
		if ok != is || is && !slices.Equal(got, want) || !is && len(got) > 0 {
			t.Fatalf("Read(%x): %v, %v, not %v, %v", s, got, ok, want, is)
		}
		if !is {
			size = 0
		}
		if r.Bad() || r.Rest() != s[size:] {
			t.Fatalf("Read(%x) doesn't leave %x", s, s[size:])
		}
	}
}

// encode fails if Encode doesn't answer so.
func encode(t *testing.T, lengths []int, b []byte, text string, is bool) {
	t.Helper()
	if got, ok := Encode(lengths, b); got != text || ok != is {
		t.Fatalf("Encode(%v, %v): %x, %v, not %x, %v", lengths, b, got, ok, text, is)
	}
}

// decode fails if Decode doesn't answer as it must.
func decode(t *testing.T, lengths []int, s string, n int) {
	t.Helper()
	want, is := decoded(lengths, s, n)
	got, ok := Decode(lengths, s, n)
	if ok != is || is && !bytes.Equal(got, want) || !is && len(got) > 0 {
		t.Fatalf("Decode(%v, %x, %d): %v, %v, not %v, %v", lengths, s, n, got, ok, want, is)
	}
}

// refused fails if Decode doesn't refuse.
func refused(t *testing.T, lengths []int, s string, n int) {
	t.Helper()
	if got, ok := Decode(lengths, s, n); ok || len(got) > 0 {
		t.Fatalf("Decode(%v, %x, %d): %v, %v", lengths, s, n, got, ok)
	}
}

// around fails if b in code, or what is like it, isn't answered as it must be.
func around(t *testing.T, lengths []int, b []byte) {
	t.Helper()
	s, ok := coded(lengths, b)
	if !ok {
		t.Fatal(lengths, b)
	}
	encode(t, lengths, b, s, true)
	if got, ok := Decode(lengths, s, len(b)); !ok || !bytes.Equal(got, b) {
		t.Fatalf("Decode(%v, %x, %d): %v, %v", lengths, s, len(b), got, ok)
	}
	refused(t, lengths, s+"\x00", len(b))
	refused(t, lengths, s+"\x01", len(b))
	for n := len(b) - 2; n <= len(b)+9; n++ {
		decode(t, lengths, s, n)
	}
	if s == "" {
		return
	}
	last := len(s) - 1
	refused(t, lengths, s[:last], len(b))
	refused(t, lengths, "", len(b))
	// A bit that is another one makes other bytes, or none.
	for bit := range 8 {
		other := s[:last] + string([]byte{s[last] ^ 1<<bit})
		decode(t, lengths, other, len(b))
		if got, ok := Decode(lengths, other, len(b)); ok && bytes.Equal(got, b) {
			t.Fatalf("Decode(%v, %x, %d): %v", lengths, other, len(b), got)
		}
	}
}

func TestExample(t *testing.T) {
	lengths, b := []int{1, 2, 2}, []byte{0, 1, 2}
	s, ok := Encode(lengths, b)
	if !ok || apart(s) != "01011000" {
		t.Fatal(apart(s), ok)
	}
	if got, ok := Decode(lengths, s, 3); !ok || !bytes.Equal(got, b) {
		t.Fatal(got, ok)
	}
}

func TestTablesWorkedOut(t *testing.T) {
	for _, w := range tables {
		table(t, w.lengths, w.text, true)
		for _, behind := range []string{"", "\x00", "\x02\x21\x02", "all that is behind"} {
			read(t, w.text+behind)
		}
		r := cursor.New(w.text)
		if got, ok := Read(r); !ok || !slices.Equal(got, w.lengths[:len(got)]) || slices.Max(append(w.lengths[len(got):], 0)) > 0 || !r.Done() {
			t.Fatalf("Read(%x): %v, %v", w.text, got, ok)
		}
		for n := range len(w.text) {
			read(t, w.text[:n])
		}
	}
}

func TestTablesOneBehindTheOther(t *testing.T) {
	var w cursor.Writer
	for _, lengths := range someWhole {
		s, _ := Table(lengths)
		w.Raw(s)
	}
	r := cursor.New(w.Text("end").String())
	for _, lengths := range someWhole {
		if got, ok := Read(r); !ok || !slices.Equal(got, lengths) {
			t.Fatal(got, ok, lengths)
		}
	}
	if r.Text(3) != "end" || !r.Done() {
		t.Fatal(r.Rest())
	}
}

func TestWrongTables(t *testing.T) {
	for _, s := range wrongTables {
		if _, _, ok := found(s); ok {
			t.Fatalf("%x", s)
		}
		read(t, s)
		if got, ok := Read(cursor.New(s)); ok || len(got) > 0 {
			t.Fatalf("Read(%x): %v, %v", s, got, ok)
		}
	}
}

func TestEachShortTable(t *testing.T) {
	read(t, "")
	for i := range 256 {
		read(t, string([]byte{byte(i)}))
		for first := range 4 {
			read(t, string([]byte{byte(first), byte(i)}))
			read(t, string([]byte{byte(first), byte(i), 0x02}))
			read(t, string([]byte{byte(first), byte(i), 0x12, 0x34}))
		}
		for j := range 256 {
			read(t, string([]byte{2, byte(i), byte(j)}))
			read(t, string([]byte{3, byte(i), byte(j)}))
		}
	}
}

func TestAReaderThatIsNone(t *testing.T) {
	if got, ok := Read(nil); ok || len(got) > 0 {
		t.Fatal(got, ok)
	}
	bad := cursor.New("\x02\x21\x02")
	bad.Raw(4)
	if got, ok := Read(bad); ok || len(got) > 0 || !bad.Bad() {
		t.Fatal(got, ok)
	}
	var zero cursor.Reader
	if got, ok := Read(&zero); ok || len(got) > 0 || zero.Bad() {
		t.Fatal(got, ok)
	}
}

func TestWrongLengths(t *testing.T) {
	for _, lengths := range wrongLengths {
		if fill(lengths) {
			t.Fatal(lengths)
		}
		table(t, lengths, "", false)
		encode(t, lengths, nil, "", false)
		encode(t, lengths, []byte{}, "", false)
		encode(t, lengths, []byte{0}, "", false)
		encode(t, lengths, []byte{0, 1}, "", false)
		for n := range 9 {
			refused(t, lengths, "", n)
			refused(t, lengths, "\x00", n)
			refused(t, lengths, "\x00\x00", n)
		}
	}
}

func TestCodesWorkedOut(t *testing.T) {
	for _, w := range codes {
		encode(t, w.lengths, []byte(w.b), w.text, true)
		around(t, w.lengths, []byte(w.b))
	}
}

func TestBytesWithoutCode(t *testing.T) {
	for _, lengths := range someWhole {
		for c := range 256 {
			is := c < len(lengths) && lengths[c] > 0
			want := ""
			if is {
				want = together(digits(lengths)[c])
			}
			encode(t, lengths, []byte{byte(c)}, want, is)
			if is {
				continue
			}
			one := byte(slices.Index(lengths, slices.Max(lengths)))
			encode(t, lengths, []byte{one, byte(c)}, "", false)
			encode(t, lengths, []byte{byte(c), one, one}, "", false)
		}
	}
	// Noughts behind the last length are bytes without a code as well.
	encode(t, []int{1, 1, 0}, []byte{2}, "", false)
	encode(t, []int{1, 1}, []byte{2}, "", false)
}

func TestEachShortText(t *testing.T) {
	for _, lengths := range someWhole[:12] {
		for n := -1; n <= 10; n++ {
			decode(t, lengths, "", n)
			for i := range 256 {
				decode(t, lengths, string([]byte{byte(i)}), n)
			}
		}
	}
	for _, lengths := range [][]int{{1, 2, 2}, {1}, {3, 1, 0, 3, 2}} {
		for i := range 256 * 256 {
			decode(t, lengths, string([]byte{byte(i), byte(i / 256)}), 5)
		}
	}
}

func TestTheOneCode(t *testing.T) {
	// The code 1 is nobody's.
	for _, lengths := range [][]int{{1}, {1, 0}, {0, 0, 1}, append(make([]int, 255), 1)} {
		c := byte(slices.Index(lengths, 1))
		for n := range 30 {
			around(t, lengths, slices.Repeat([]byte{c}, n))
			s := string(make([]byte, (n+7)/8))
			for bit := range 8 * len(s) {
				other := []byte(s)
				other[bit/8] |= 1 << (bit % 8)
				refused(t, lengths, string(other), n)
			}
		}
	}
}

func TestHowMany(t *testing.T) {
	lengths := []int{1, 1}
	for _, n := range []int{-1, -8, math.MinInt, 1<<20 + 1, 1 << 32, math.MaxInt} {
		refused(t, lengths, "", n)
		refused(t, lengths, "\x00", n)
	}
	most := string(make([]byte, 1<<17))
	if b, ok := Decode(lengths, most, 1<<20); !ok || !bytes.Equal(b, make([]byte, 1<<20)) {
		t.Fatal(len(b), ok)
	}
	if b, ok := Decode(lengths, most, 1<<20-7); !ok || len(b) != 1<<20-7 {
		t.Fatal(len(b), ok)
	}
	refused(t, lengths, most, 1<<20-8)
	refused(t, lengths, most, 1<<20+1)
	refused(t, lengths, most+"\x00", 1<<20)
	refused(t, lengths, most+"\x00", 1<<20+1)
	refused(t, lengths, most[1:], 1<<20)
	if b, ok := Decode(lengths, "", 0); !ok || len(b) > 0 {
		t.Fatal(b, ok)
	}
	refused(t, lengths, "\x00", 0)
	// More than are decoded are coded all the same.
	if s, ok := Encode(lengths, slices.Repeat([]byte{1}, 1<<20+8)); !ok || s != strings.Repeat("\xff", 1<<17+1) {
		t.Fatal(len(s), ok)
	}
}

func TestLongestCodes(t *testing.T) {
	lengths := []int{1, 2, 3, 4, 5, 6, 7, 8, 9, 10, 11, 11}
	b := slices.Repeat([]byte{11}, 1<<20)
	s, ok := Encode(lengths, b)
	if !ok || s != strings.Repeat("\xff", 11<<17) {
		t.Fatal(len(s), ok)
	}
	if got, ok := Decode(lengths, s, 1<<20); !ok || !bytes.Equal(got, b) {
		t.Fatal(len(got), ok)
	}
	refused(t, lengths, s, 1<<20-1)
}

func TestAnyLengthsAndBytes(t *testing.T) {
	d := dice(10)
	for range 300 {
		lengths := d.whole()
		text, ok := tabled(lengths)
		if !ok {
			t.Fatal(lengths)
		}
		table(t, lengths, text, true)
		read(t, text+d.text(d.next()%4))
		for _, n := range []int{0, 1, 2, 3, d.next() % 40} {
			around(t, lengths, d.bytes(lengths, n))
		}
		for range 20 {
			decode(t, lengths, d.text(d.next()%6), d.next()%12)
		}
		other := []byte(text)
		other[d.next()%len(other)] ^= 1 << (d.next() % 8)
		read(t, string(other))
	}
}

func TestLengthsOfCounts(t *testing.T) {
	text := []byte("what is said again and again is said in short, and what is said but once is said at length; so it goes")
	counts := make([]int, 256)
	for _, c := range text {
		counts[c]++
	}
	lengths, ok := huff.Lengths(counts)
	if !ok {
		t.Fatal(lengths)
	}
	around(t, lengths, text)
	cost, _ := huff.Cost(counts, lengths)
	if s, _ := Encode(lengths, text); len(s) != (cost+7)/8 {
		t.Fatal(len(s), cost)
	}
}

func TestNothingIsChangedOrKept(t *testing.T) {
	for _, w := range codes {
		lengths, b := slices.Clone(w.lengths), []byte(w.b)
		s, _ := Encode(lengths, b)
		text, _ := Table(lengths)
		got, _ := Decode(lengths, s, len(b))
		if !slices.Equal(lengths, w.lengths) || string(b) != w.b {
			t.Fatal(lengths, b)
		}
		clear(lengths)
		clear(b)
		again, ok := Decode(w.lengths, s, len(b))
		if !ok || string(got) != w.b || string(again) != w.b || s != w.text {
			t.Fatal(got, again, s)
		}
		clear(got)
		if string(again) != w.b {
			t.Fatal(again)
		}
		r := cursor.New(text + text)
		first, _ := Read(r)
		was := slices.Clone(first)
		second, ok := Read(r)
		_ = append(first, -1)
		clear(first)
		if !ok || !slices.Equal(second, was) {
			t.Fatal(second, was)
		}
	}
}

func FuzzRead(f *testing.F) {
	for _, w := range tables {
		f.Add(w.text)
	}
	for _, s := range wrongTables {
		f.Add(s)
	}
	f.Fuzz(read)
}

func FuzzDecode(f *testing.F) {
	for _, w := range codes {
		text, _ := tabled(w.lengths)
		f.Add(text, w.text, len(w.b))
	}
	f.Fuzz(func(t *testing.T, text, s string, n int) {
		if len(s) > 300 {
			s = s[:300]
		}
		lengths, _, _ := found(text)
		decode(t, lengths, s, n)
		want, is := coded(lengths, []byte(s))
		encode(t, lengths, []byte(s), want, is)
	})
}
