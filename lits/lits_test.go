package lits

import (
	"encoding/binary"
	"math"
	"slices"
	"strings"
	"testing"

	"pemmican/cursor"
	"pemmican/huff"
	"pemmican/litcode"
)

// most is how many literals a section has at most.
const most = 1 << 20

// sections are texts, and sections of them, worked out beside the program.
var sections = []struct {
	text    string
	section string
}{
	{"", "\x00\x00"},
	// All are one byte.
	{"aaaa", "\x01\x04a"},
	{"a", "\x01\x01a"},
	{"\x00", "\x01\x01\x00"},
	{"\x00\x00", "\x01\x02\x00"},
	{"\xff\xff\xff", "\x01\x03\xff"},
	{"\x80", "\x01\x01\x80"},
	{strings.Repeat("x", 127), "\x01\x7fx"},
	{strings.Repeat("x", 128), "\x01\x80\x01x"},
	{strings.Repeat("x", 300), "\x01\xac\x02x"},
	// Too few, for lengths to be worth it.
	{"ab", "\x00\x02ab"},
	{"aab", "\x00\x03aab"},
	{"é", "\x00\x02\xc3\xa9"},
	{"\x00\x01", "\x00\x02\x00\x01"},
	// In code just as long, and a byte less.
	{"\x00\x01\x00\x01", "\x00\x04\x00\x01\x00\x01"},
	{"\x00\x01\x00\x01\x00", "\x02\x05\x01\x11\x01\x0a"},
	{"\x01\x01\x01\x00\x00", "\x02\x05\x01\x11\x01\x07"},
	{"\x00\x01\x00\x01\x00\x01\x00\x01", "\x02\x08\x01\x11\x01\xaa"},
	{"\x00\x01\x00\x01\x00\x01\x00\x01\x01", "\x02\x09\x01\x11\x02\xaa\x01"},
	{strings.Repeat("ab", 30), "\x00\x3c" + strings.Repeat("ab", 30)},
	{"b" + strings.Repeat("ab", 30), "\x02\x3d\x62" + strings.Repeat("\x00", 48) + "\x10\x01\x08" + strings.Repeat("\x55", 7) + "\x15"},
	{"\x00\xff" + strings.Repeat("\x00", 147), "\x00\x95\x01\x00\xff" + strings.Repeat("\x00", 147)},
	{"\x00\xff" + strings.Repeat("\x00", 148), "\x02\x96\x01\xff\x01" + strings.Repeat("\x00", 126) + "\x10\x13\x02" + strings.Repeat("\x00", 18)},
	// Codes of unlike lengths.
	{"\x00\x00\x00\x00\x00\x01\x01\x02", "\x02\x08\x02\x21\x02\x02\xa0\x06"},
	{"\x02\x01\x01\x00\x00\x00\x00\x00", "\x02\x08\x02\x21\x02\x02\x17\x00"},
	{"\x03\x03\x03\x03\x03\x01\x01\x00", "\x02\x08\x03\x22\x10\x02\xe0\x03"},
	// The code's bytes are so many that a group isn't enough.
	{strings.Repeat("\x00\x01", 508), "\x02\xf8\x07\x01\x11\x7f" + strings.Repeat("\xaa", 127)},
	{strings.Repeat("\x01\x00", 512), "\x02\x80\x08\x01\x11\x80\x01" + strings.Repeat("\x55", 128)},
}

// others are sections that Encode doesn't make, and what literals they have.
var others = []struct {
	section string
	text    string
}{
	{"\x00\x04aaaa", "aaaa"},
	{"\x00\x01a", "a"},
	// No literals, and all that is asked for is there.
	{"\x01\x00a", ""},
	{"\x02\x00\x00\x01\x00", ""},
	{"\x02\x00\x02\x21\x02\x00", ""},
	// One code alone.
	{"\x02\x03\x00\x01\x01\x00", "\x00\x00\x00"},
	{"\x02\x09\x01\x10\x02\x00\x00", "\x01\x01\x01\x01\x01\x01\x01\x01\x01"},
	// Longer than they themselves.
	{"\x02\x02\x01\x11\x01\x02", "\x00\x01"},
	{"\x02\x03\x02\x21\x02\x01\x1a", "\x00\x01\x02"},
	// Other lengths than the least.
	{"\x02\x08\x02\x22\x01\x02\xaa\x00", "\x02\x00\x00\x00\x00\x02\x02\x02"},
}

// wrong are texts that begin with no section.
var wrong = []string{
	"",
	// Another kind.
	"\x03\x00",
	"\x03\x01a",
	"\x80\x01a",
	"\xff\x01a",
	"\xff",
	"\x04\x04aaaa",
	// What isn't there.
	"\x00",
	"\x01",
	"\x02",
	"\x00\x01",
	"\x00\x05aaaa",
	"\x00\x80\x01a",
	"\x01\x00",
	"\x01\x04",
	"\x02\x00",
	"\x02\x03\x02\x21",
	"\x02\x03\x02\x21\x02",
	"\x02\x03\x02\x21\x02\x01",
	"\x02\x03\x02\x21\x02\x02\x1a",
	"\x02\x03\x02\x21\x02\x80\x01\x1a",
	"\x02\x03\x02\x21\x02\xff\xff\xff\xff\xff\xff\xff\xff\x7f\x1a",
	"\x02\x03\x02\x21\x02\xff\xff\xff\xff\xff\xff\xff\xff\xff\x01\x1a",
	// No number in groups.
	"\x00\x80",
	"\x00\x80\x00",
	"\x00\x84\x00aaaa",
	"\x01\x84\x00a",
	"\x01\x84\x80\x00a",
	"\x02\x83\x00\x02\x21\x02\x01\x1a",
	"\x02\x03\x02\x21\x02\x81\x00\x1a",
	"\x01\xff\xff\xff\xff\xff\xff\xff\xff\xff\x02a",
	// More than 2^20 of them.
	"\x01\x81\x80\x40a",
	"\x01\xff\xff\xff\xff\xff\xff\xff\xff\x7fa",
	"\x01\x80\x80\x80\x80\x80\x80\x80\x80\x80\x01a",
	"\x01\xff\xff\xff\xff\xff\xff\xff\xff\xff\x01a",
	"\x02\x81\x80\x40\x00\x01\x00",
	// No lengths.
	"\x02\x00\x00\x00\x00",
	"\x02\x03\x02\x21\x03\x01\x1a",
	"\x02\x03\x02\x11\x02\x01\x1a",
	"\x02\x03\x03\x21\x02\x01\x1a",
	"\x02\x03\x02\x21\x12\x01\x1a",
	"\x02\x03\x00\x02\x01\x00",
	// No code of so many.
	"\x02\x03\x02\x21\x02\x00",
	"\x02\x03\x02\x21\x02\x02\x1a\x00",
	"\x02\x03\x02\x21\x02\x01\x3a",
	"\x02\x02\x02\x21\x02\x01\x1a",
	"\x02\x00\x02\x21\x02\x01\x1a",
	"\x02\x00\x02\x21\x02\x01\x00",
	"\x02\x09\x02\x21\x02\x01\x1a",
	"\x02\x08\x02\x21\x02\x01\xa0",
	"\x02\x01\x00\x01\x01\x01",
	"\x02\x08\x00\x01\x01\x80",
	"\x02\x09\x00\x01\x01\x00",
	"\x02\x08\x00\x01\x02\x00\x00",
}

// A dice gives the same numbers in every run.
type dice uint64

func (d *dice) next() int {
	*d = *d*6364136223846793005 + 1442695040888963407
	return int(*d >> 33)
}

// text makes n bytes, the low ones more often than the high ones, or all alike.
func (d *dice) text(n int) string {
	mask, few, first := d.next(), d.next()%9, d.next()
	b := make([]byte, n)
	for i := range b {
		b[i] = byte(d.next() & mask >> (d.next() % 8 * few / 4))
		if few == 8 {
			b[i] = byte(first)
		}
	}
	return string(b)
}

// group tells n in groups.
func group(n int) string {
	return string(binary.AppendUvarint(nil, uint64(n)))
}

// grouped tells the number in groups that s begins with, and how many bytes it takes.
func grouped(s string) (uint64, int, bool) {
	v, size := binary.Uvarint([]byte(s))
	if size <= 0 || string(binary.AppendUvarint(nil, v)) != s[:size] {
		return 0, 0, false
	}
	return v, size, true
}

// made tells the section of s.
func made(s string) string {
	if s != "" && strings.Count(s, s[:1]) == len(s) {
		return "\x01" + group(len(s)) + s[:1]
	}
	raw := "\x00" + group(len(s)) + s
	var counts []int
	for _, c := range []byte(s) {
		for len(counts) <= int(c) {
			counts = append(counts, 0)
		}
		counts[c]++
	}
	lengths, ok := huff.Lengths(counts)
	if !ok {
		return raw
	}
	table, _ := litcode.Table(lengths)
	code, _ := litcode.Encode(lengths, []byte(s))
	short := "\x02" + group(len(s)) + table + group(len(code)) + code
	if len(short) < len(raw) {
		return short
	}
	return raw
}

// coming tells the literals of the section that s begins with, and how many bytes it takes.
func coming(s string, bound int) (string, int, bool) {
	if s == "" || s[0] > 2 {
		return "", 0, false
	}
	v, size, ok := grouped(s[1:])
	if !ok || bound < 0 || v > uint64(bound) || v > most {
		return "", 0, false
	}
	n, at := int(v), 1+size
	switch {
	case s[0] == 2:
		text, size, ok := comingCode(s[at:], n)
		return text, at + size, ok
	case s[0] == 1 && len(s) > at:
		text := ""
		for range n {
			text += s[at : at+1]
		}
		return text, at + 1, true
	case s[0] == 0 && len(s)-at >= n:
		return s[at : at+n], at + n, true
	}
	return "", 0, false
}

// comingCode tells the n literals whose lengths and code s begins with, and how many bytes these take.
func comingCode(s string, n int) (string, int, bool) {
	if s == "" {
		return "", 0, false
	}
	at := 1 + (int(s[0])+2)/2
	if len(s) < at {
		return "", 0, false
	}
	lengths, ok := litcode.Read(cursor.New(s[:at]))
	if !ok {
		return "", 0, false
	}
	v, size, ok := grouped(s[at:])
	at += size
	if !ok || v > uint64(len(s)-at) {
		return "", 0, false
	}
	b, ok := litcode.Decode(lengths, s[at:at+int(v)], n)
	return string(b), at + int(v), ok
}

// encode fails if Encode or Raw doesn't answer as it must, or Decode doesn't bring s back.
func encode(t *testing.T, s string) {
	t.Helper()
	want, got, raw := made(s), Encode(s), Raw(s)
	if got != want {
		t.Fatalf("Encode(%x): %x, not %x", s, got, want)
	}
	if raw != "\x00"+group(len(s))+s {
		t.Fatalf("Raw(%x): %x", s, raw)
	}
	if len(got) > len(raw) {
		t.Fatalf("Encode(%x) is longer than Raw: %x", s, got)
	}
	for _, section := range []string{got, raw} {
		for _, behind := range []string{"", "\x00", "\x01\x04a", "all that is behind"} {
			r := cursor.New(section + behind)
			if text, ok := Decode(r, len(s)); text != s || !ok || r.Bad() || r.Rest() != behind {
				t.Fatalf("Decode(%x, %d): %x, %v", section+behind, len(s), text, ok)
			}
		}
		if text, ok := Decode(cursor.New(section), most); text != s || !ok {
			t.Fatalf("Decode(%x, 2^20): %x, %v", section, text, ok)
		}
		refused(t, section, len(s)-1)
	}
}

// decode fails if Decode doesn't answer as it must.
func decode(t *testing.T, s string, bound int) {
	t.Helper()
	want, size, is := coming(s, bound)
	if !is {
		refused(t, s, bound)
		return
	}
	for _, ahead := range []string{"", "\x02\x21"} {
		r := cursor.New(ahead + s)
		r.Raw(len(ahead))
		got, ok := Decode(r, bound)
		if got != want || !ok {
			t.Fatalf("Decode(%x, %d): %x, %v, not %x", s, bound, got, ok, want)
		}
		if r.Bad() || r.Rest() != s[size:] {
			t.Fatalf("Decode(%x, %d) doesn't leave %x", s, bound, s[size:])
		}
	}
}

// refused fails if Decode doesn't refuse.
func refused(t *testing.T, s string, bound int) {
	t.Helper()
	if got, ok := Decode(cursor.New(s), bound); got != "" || ok {
		t.Fatalf("Decode(%x, %d): %x, %v", s, bound, got, ok)
	}
}

// cut fails if Decode takes less than a whole section, or doesn't answer as it must of what is like one.
func cut(t *testing.T, section string, n int) {
	t.Helper()
	for size := range len(section) {
		refused(t, section[:size], n)
		refused(t, section[:size], most)
	}
	for at := range len(section) {
		for bit := range 8 {
			other := []byte(section)
			other[at] ^= 1 << bit
			decode(t, string(other), n)
			decode(t, string(other), 2*n+9)
		}
	}
}

func TestExample(t *testing.T) {
	if s := Encode("aaaa"); s != "\x01\x04\x61" {
		t.Fatalf("%x", s)
	}
	if s, ok := Decode(cursor.New("\x01\x04\x61"), 4); s != "aaaa" || !ok {
		t.Fatal(s, ok)
	}
}

func TestSectionsWorkedOut(t *testing.T) {
	for _, w := range sections {
		if s := Encode(w.text); s != w.section {
			t.Fatalf("Encode(%x): %x, not %x", w.text, s, w.section)
		}
		encode(t, w.text)
		cut(t, w.section, len(w.text))
		cut(t, Raw(w.text), len(w.text))
	}
}

func TestOtherSections(t *testing.T) {
	for _, w := range others {
		if s, ok := Decode(cursor.New(w.section), len(w.text)); s != w.text || !ok {
			t.Fatalf("Decode(%x): %x, %v", w.section, s, ok)
		}
		decode(t, w.section+"behind", most)
		refused(t, w.section, len(w.text)-1)
		cut(t, w.section, len(w.text))
	}
}

func TestWrongSections(t *testing.T) {
	for _, s := range wrong {
		if _, _, ok := coming(s, math.MaxInt); ok {
			t.Fatalf("%x", s)
		}
		for _, bound := range []int{math.MinInt, -1, 0, 1, 2, 3, 4, 8, 9, 600, most, most + 1, 1 << 32, math.MaxInt} {
			refused(t, s, bound)
		}
	}
}

func TestKinds(t *testing.T) {
	for kind := 3; kind < 256; kind++ {
		for _, w := range sections {
			refused(t, string([]byte{byte(kind)})+w.section[1:], most)
		}
	}
}

func TestSectionsOneBehindTheOther(t *testing.T) {
	var w cursor.Writer
	for _, c := range sections {
		w.Raw(Encode(c.text)).Raw(Raw(c.text))
	}
	r := cursor.New(w.Text("end").String())
	for _, c := range sections {
		for range 2 {
			if s, ok := Decode(r, most); s != c.text || !ok {
				t.Fatalf("%x, %v, not %x", s, ok, c.text)
			}
		}
	}
	if r.Text(3) != "end" || !r.Done() {
		t.Fatal(r.Rest())
	}
}

func TestAReaderThatIsNone(t *testing.T) {
	for _, bound := range []int{math.MinInt, -1, 0, 1, most, math.MaxInt} {
		if s, ok := Decode(nil, bound); s != "" || ok {
			t.Fatal(s, ok)
		}
		bad := cursor.New("\x01\x04a")
		bad.Raw(4)
		if s, ok := Decode(bad, bound); s != "" || ok || !bad.Bad() {
			t.Fatal(s, ok)
		}
		var zero cursor.Reader
		if s, ok := Decode(&zero, bound); s != "" || ok {
			t.Fatal(s, ok)
		}
	}
}

func TestHowMany(t *testing.T) {
	for _, section := range []string{"\x00\x04aaaa", "\x01\x04a", "\x02\x04\x01\x11\x01\x0a"} {
		for _, bound := range []int{math.MinInt, math.MinInt + 1, -1 << 32, -most, -4, -1, 0, 1, 2, 3} {
			refused(t, section, bound)
		}
		for _, bound := range []int{4, 5, 128, most - 1, most, most + 1, 1 << 32, math.MaxInt} {
			if s, ok := Decode(cursor.New(section), bound); len(s) != 4 || !ok {
				t.Fatalf("Decode(%x, %d): %x, %v", section, bound, s, ok)
			}
		}
	}
	for _, section := range []string{"\x00\x00", "\x01\x00a", "\x02\x00\x01\x11\x00"} {
		decode(t, section, 0)
		refused(t, section, -1)
		refused(t, section, math.MinInt)
	}
}

// many makes the text of n bytes, of which all but few are a, and its sections of each kind.
func many(n, few int) (string, []string) {
	text := strings.Repeat("\x00", n-few) + strings.Repeat("\x01", few)
	code, _ := litcode.Encode([]int{1, 1}, []byte(text))
	l := []string{
		"\x00" + group(n) + text,
		"\x02" + group(n) + "\x01\x11" + group(len(code)) + code,
	}
	if few == 0 {
		l = append(l, "\x01"+group(n)+"\x00")
	}
	return text, l
}

func TestTheMostLiterals(t *testing.T) {
	for _, few := range []int{0, 1, 5, most / 2} {
		text, l := many(most, few)
		for _, section := range l {
			for _, bound := range []int{most, most + 1, math.MaxInt} {
				if s, ok := Decode(cursor.New(section), bound); s != text || !ok {
					t.Fatal(few, bound, len(s), ok)
				}
			}
			refused(t, section, most-1)
			refused(t, section[:len(section)-1], most)
		}
		encode(t, text)
		_, l = many(most+1, few)
		for _, section := range l {
			for _, bound := range []int{most, most + 1, 2 * most, math.MaxInt} {
				refused(t, section, bound)
			}
		}
	}
}

func TestTheLongestCode(t *testing.T) {
	// All have the code of eleven ones: so it has more bytes than there are literals.
	section := "\x02" + group(most) + "\x0b\x21\x43\x65\x87\xa9\xbb" + group(11<<17)
	code := strings.Repeat("\xff", 11<<17)
	r := cursor.New(section + code + "behind")
	if s, ok := Decode(r, most); s != strings.Repeat("\x0b", most) || !ok || r.Rest() != "behind" {
		t.Fatal(len(s), ok)
	}
	if s, ok := Decode(cursor.New(section+code[1:]), most); s != "" || ok {
		t.Fatal(len(s), ok)
	}
}

func TestMoreThanAreDecoded(t *testing.T) {
	for _, c := range []struct {
		n, few int
		kind   byte
	}{
		{most + 1, 0, 1},
		{3 * most, 0, 1},
		// A byte comes just as often as a count may tell.
		{most + 1, 1, 2},
		{most + 5, 5, 2},
		{2 * most, most, 2},
		// And more often.
		{most + 2, 1, 0},
		{most + 5, 4, 0},
		{2*most + 1, most, 0},
	} {
		text, _ := many(c.n, c.few)
		s := Encode(text)
		if s[0] != c.kind || s != made(text) || len(s) > len(Raw(text)) {
			t.Fatal(c, s[0], len(s))
		}
		if Raw(text) != "\x00"+group(c.n)+text {
			t.Fatal(c)
		}
		refused(t, s, math.MaxInt)
		refused(t, Raw(text), math.MaxInt)
	}
}

func TestEachByte(t *testing.T) {
	for c := range 256 {
		one := string([]byte{byte(c)})
		for _, n := range []int{1, 2, 127, 128, 600} {
			if s := Encode(strings.Repeat(one, n)); s != "\x01"+group(n)+one {
				t.Fatalf("%x", s)
			}
		}
		encode(t, one)
		// About as many as it takes for lengths to be worth it.
		least := (c/2 + 4) * 8 / 7
		for n := max(least-4, 0); n < least+4; n++ {
			encode(t, one+strings.Repeat("\x00", n))
			encode(t, strings.Repeat("\xff", n)+one)
		}
	}
}

func TestEachTwoBytes(t *testing.T) {
	for i := range 256 * 256 {
		s := string([]byte{byte(i), byte(i / 256)})
		want := "\x00\x02" + s
		if s[0] == s[1] {
			want = "\x01\x02" + s[:1]
		}
		if got := Encode(s); got != want {
			t.Fatalf("Encode(%x): %x", s, got)
		}
	}
}

func TestEachShortListOfFewBytes(t *testing.T) {
	for n := range 8 {
		all := 1
		for range n {
			all *= 3
		}
		for i := range all {
			b := make([]byte, n)
			for at := range b {
				b[at] = byte(i % 3)
				i /= 3
			}
			encode(t, string(b))
		}
	}
}

func TestEachShortSection(t *testing.T) {
	for _, bound := range []int{-1, 0, 1, 5, most} {
		decode(t, "", bound)
		for i := range 256 {
			decode(t, string([]byte{byte(i)}), bound)
			for kind := range 4 {
				decode(t, string([]byte{byte(kind), byte(i)}), bound)
				decode(t, string([]byte{byte(kind), byte(i), 'a'}), bound)
				decode(t, string([]byte{byte(kind), byte(i), 0x00, 0x01, 0x01, 0x00}), bound)
				decode(t, string([]byte{byte(kind), byte(i), 0x01, 0x11, 0x01, 0x06}), bound)
				decode(t, string([]byte{byte(kind), 0x03, 0x02, 0x21, 0x02, 0x01, byte(i)}), bound)
				decode(t, string([]byte{byte(kind), 0x05, 0x02, 0x21, byte(i), 0x01, 0x1a}), bound)
				decode(t, string([]byte{byte(kind), 0x03, 0x02, 0x21, 0x02, byte(i), 0x1a}), bound)
			}
		}
	}
}

func TestAnyTexts(t *testing.T) {
	d := dice(15)
	kinds := [3]int{}
	for range 3000 {
		s := d.text(d.next() % (1 + d.next()%1200))
		encode(t, s)
		kinds[Encode(s)[0]]++
	}
	if kinds[0] < 100 || kinds[1] < 100 || kinds[2] < 100 {
		t.Fatal(kinds)
	}
}

func TestAnySections(t *testing.T) {
	d := dice(51)
	for range 20000 {
		s := d.text(d.next() % 60)
		decode(t, s, d.next()%60)
		decode(t, string([]byte{byte(d.next() % 3)})+s, d.next()%300)
		other := []byte(Encode(s))
		other[d.next()%len(other)] ^= 1 << (d.next() % 8)
		decode(t, string(other), most)
	}
}

// TestTheLeast holds what is in code against what Huffman's codes take, worked out by joining the two lightest.
func TestTheLeast(t *testing.T) {
	d := dice(77)
	for range 300 {
		s := d.text(100 + d.next()%600)
		weights := map[byte]int{}
		for _, c := range []byte(s) {
			weights[c]++
		}
		if len(weights) < 2 {
			continue
		}
		var l []int
		top := 0
		for c, n := range weights {
			l = append(l, n)
			top = max(top, int(c))
		}
		bits := 0
		for len(l) > 1 {
			slices.Sort(l)
			bits += l[0] + l[1]
			l = append(l[2:], l[0]+l[1])
		}
		size := (bits + 7) / 8
		least := len(group(len(s))) + 2 + (top+2)/2 + len(group(size)) + size
		got := Encode(s)
		if got[0] == 2 && len(got) < least || len(got) > len(Raw(s)) {
			t.Fatalf("Encode(%x): %d bytes, %d are the least", s, len(got), least)
		}
		// A code of 12 bits takes 377 bytes at least.
		if want := min(least, len(Raw(s))); len(s) < 377 && len(got) != want {
			t.Fatalf("Encode(%x): %d bytes, not %d", s, len(got), want)
		}
	}
}

func TestOneAnswer(t *testing.T) {
	for _, w := range sections {
		first, raw := Encode(w.text), Raw(w.text)
		r := cursor.New(first + raw)
		// A copy of a reader goes on by itself.
		other := *r
		s, _ := Decode(r, most)
		again, ok := Decode(&other, most)
		if !ok || s != w.text || again != w.text || r.Rest() != raw || other.Rest() != raw {
			t.Fatalf("%x, %x", s, again)
		}
		if Encode(w.text) != first || Raw(w.text) != raw || Encode(s) != first || Raw(s) != raw {
			t.Fatalf("%x, %x", first, raw)
		}
	}
}

func FuzzEncode(f *testing.F) {
	for _, w := range sections {
		f.Add(w.text)
	}
	f.Fuzz(encode)
}

func FuzzDecode(f *testing.F) {
	for _, w := range sections {
		f.Add(w.section, len(w.text))
	}
	for _, w := range others {
		f.Add(w.section, len(w.text))
	}
	for _, s := range wrong {
		f.Add(s, most)
	}
	f.Fuzz(func(t *testing.T, s string, bound int) {
		decode(t, s, bound%100000)
	})
}
