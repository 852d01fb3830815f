package dict

import (
	"encoding/binary"
	"math"
	"math/bits"
	"strings"
	"testing"
	"unsafe"

	"pemmican/api"
)

// A dice gives the same numbers in every run.
type dice uint64

func (d *dice) next() int {
	*d = *d*6364136223846793005 + 1442695040888963407
	return int(*d >> 33)
}

// text answers n bytes.
func (d *dice) text(n int) string {
	b := make([]byte, n)
	for i := range b {
		b[i] = byte(d.next())
	}
	return string(b)
}

// plainName is the sum of layer 4, written anew from its chapter.
func plainName(s string) uint64 {
	h, n := uint64(0x6A09E667F3BCC908), uint64(0)
	for _, c := range []byte(s) {
		h = (h ^ uint64(c)) * 0x9E3779B97F4A7C15
		h ^= h >> 29
		n++
	}
	v := (h + n) * 0xBF58476D1CE4E5B9
	return v ^ v>>32
}

// made answers what has that name, a number in those groups, and that text.
func made(name uint64, groups, text string) string {
	b := binary.LittleEndian.AppendUint64([]byte("PD"), name)
	return string(b) + groups + text
}

// groups answers n in groups.
func groups(n uint64) string {
	return string(binary.AppendUvarint(nil, n))
}

// plainDecode reads a dictionary byte by byte, without the layers below.
func plainDecode(s string) (string, api.Errno) {
	if len(s) < 11 || s[:2] != "PD" {
		return "", api.ErrForm
	}
	name := binary.LittleEndian.Uint64([]byte(s[2:10]))
	n, size := binary.Uvarint([]byte(s[10:]))
	if size <= 0 || size != max(1, (bits.Len64(n)+6)/7) {
		return "", api.ErrForm
	}
	if n > 256 {
		return "", api.ErrLong
	}
	text := s[10+size:]
	if uint64(len(text)) != n {
		return "", api.ErrForm
	}
	if plainName(text) != name {
		return "", api.ErrSum
	}
	return text, api.OK
}

// expect decodes s, and asks for that answer.
func expect(t *testing.T, what, s, text string, err api.Errno) {
	t.Helper()
	if got, e := Decode(s); got != text || e != err {
		t.Errorf("%s: Decode(%.40q) = %.40q, %d; want %.40q, %d", what, s, got, e, text, err)
	}
}

func TestExample(t *testing.T) {
	s, err := Encode("")
	if err != api.OK || len(s) != 11 || s[:2] != "PD" || s[10] != 0 {
		t.Fatalf("the empty one: %q, %d", s, err)
	}
	if want := made(plainName(""), "\x00", ""); s != want {
		t.Errorf("the empty one: %q, want %q", s, want)
	}
	expect(t, "the empty one", s, "", api.OK)
}

func TestNameIsTheSum(t *testing.T) {
	// The sum of "ab" is told in README.md, and in the tests of layer 4.
	if n := Name("ab"); n != 0x1A209FE30190263C {
		t.Errorf("Name(ab) = %X", n)
	}
	d := dice(1)
	for n := range 600 {
		if s := d.text(n); Name(s) != plainName(s) {
			t.Fatalf("Name of %d bytes = %X, want %X", n, Name(s), plainName(s))
		}
	}
	if s := strings.Repeat("x", 100000); Name(s) != plainName(s) {
		t.Error("a text that is too long for a dictionary has a name too")
	}
}

func TestBytesByHand(t *testing.T) {
	s, err := Encode("ab")
	if want := "PD\x3C\x26\x90\x01\xE3\x9F\x20\x1A\x02ab"; s != want || err != api.OK {
		t.Errorf("Encode(ab) = %q, %d; want %q", s, err, want)
	}
	expect(t, "ab", "PD\x3C\x26\x90\x01\xE3\x9F\x20\x1A\x02ab", "ab", api.OK)
}

func TestEachLength(t *testing.T) {
	d := dice(2)
	for n := range api.MaxDict + 1 {
		text := d.text(n)
		s, err := Encode(text)
		if want := made(plainName(text), groups(uint64(n)), text); s != want || err != api.OK {
			t.Fatalf("Encode of %d bytes = %q, %d; want %q", n, s, err, want)
		}
		expect(t, "what was encoded", s, text, api.OK)
	}
}

func TestTooLong(t *testing.T) {
	for _, n := range []int{257, 258, 300, 512, 1000, 100000} {
		if s, err := Encode(strings.Repeat("x", n)); s != "" || err != api.ErrLong {
			t.Errorf("Encode of %d bytes = %.40q, %d", n, s, err)
		}
	}
	text := strings.Repeat("x", 257)
	expect(t, "all are there", made(plainName(text), groups(257), text), "", api.ErrLong)
	expect(t, "none is there", made(0, groups(257), ""), "", api.ErrLong)
	expect(t, "some are behind", made(0, groups(257), text+"y"), "", api.ErrLong)
	for _, n := range []uint64{1 << 20, math.MaxInt32, 1 << 32, 1<<32 + 2, math.MaxInt64, 1 << 63, math.MaxUint64} {
		expect(t, "a great number", made(plainName("ab"), groups(n), "ab"), "", api.ErrLong)
	}
}

func TestLetters(t *testing.T) {
	whole, _ := Encode("ab")
	for _, l := range []string{"pd", "Pd", "pD", "DP", "PE", "QD", "\x00D", "P\x00"} {
		expect(t, "other letters", l+whole[2:], "", api.ErrForm)
	}
	long := made(0, groups(1000), "")
	expect(t, "other letters, ahead of too many bytes", "XD"+long[2:], "", api.ErrForm)
	expect(t, "other letters, ahead of another name", "PX"+made(7, "\x02", "ab")[2:], "", api.ErrForm)
	expect(t, "nothing", "", "", api.ErrForm)
	expect(t, "no letters", whole[2:], "", api.ErrForm)
	expect(t, "something ahead", "P"+whole, "", api.ErrForm)
}

func TestTorn(t *testing.T) {
	d := dice(3)
	for _, n := range []int{0, 1, 2, 127, 128, 255, 256} {
		whole, _ := Encode(d.text(n))
		for i := range len(whole) {
			expect(t, "torn", whole[:i], "", api.ErrForm)
		}
		expect(t, "a byte behind", whole+"\x00", "", api.ErrForm)
		expect(t, "twice", whole+whole, "", api.ErrForm)
	}
}

func TestGroups(t *testing.T) {
	name := plainName("ab")
	expect(t, "a last group of nought", made(name, "\x82\x00", "ab"), "", api.ErrForm)
	expect(t, "nought in two groups", made(plainName(""), "\x80\x00", ""), "", api.ErrForm)
	expect(t, "no last group", made(name, "\x82", ""), "", api.ErrForm)
	expect(t, "ten groups, too great", made(name, strings.Repeat("\xFF", 9)+"\x02", "ab"), "", api.ErrForm)
	expect(t, "eleven groups", made(name, strings.Repeat("\xFF", 10)+"\x01", "ab"), "", api.ErrForm)
}

func TestOrderOfErrors(t *testing.T) {
	expect(t, "fewer, and another name", made(7, "\x03", "ab"), "", api.ErrForm)
	expect(t, "something behind, and another name", made(7, "\x01", "ab"), "", api.ErrForm)
	expect(t, "something behind, whose name it is", made(plainName("ab"), "\x01", "ab"), "", api.ErrForm)
	expect(t, "another name", made(7, "\x02", "ab"), "", api.ErrSum)
	expect(t, "the empty one's name", made(plainName(""), "\x02", "ab"), "", api.ErrSum)
	expect(t, "no name for the empty one", made(0, "\x00", ""), "", api.ErrSum)
}

func TestEachBitCounts(t *testing.T) {
	whole, _ := Encode("a dictionary of some bytes")
	for i := range len(whole) {
		for bit := range 8 {
			b := []byte(whole)
			b[i] ^= 1 << bit
			text, err := plainDecode(string(b))
			if err == api.OK {
				t.Fatal("two texts of one name, or another form")
			}
			expect(t, "another bit", string(b), text, err)
			if i >= 2 && i < 10 && err != api.ErrSum {
				t.Errorf("another name: %d", err)
			}
		}
	}
}

// What is decoded has just these bytes: nothing but what Encode answers is decoded.
func TestAnyBytes(t *testing.T) {
	d := dice(4)
	heads := []string{"", "\x00", "\x01", "\x02", "\x03", "\x80\x02", "\x81\x02", "\x80", "\x80\x00", "\xFF"}
	for range 50000 {
		text := d.text(d.next() % 5)
		if d.next()%8 == 0 {
			text = d.text(250 + d.next()%12)
		}
		name := plainName(text)
		if d.next()%4 == 0 {
			name ^= 1 << (d.next() % 64)
		}
		g := groups(uint64(len(text)))
		if d.next()%3 == 0 {
			g = heads[d.next()%len(heads)]
		}
		s := made(name, g, text)
		if d.next()%4 == 0 {
			s = s[:d.next()%(len(s)+1)]
		}
		check(t, s)
	}
	for range 20000 {
		check(t, d.text(d.next()%30))
		check(t, "PD"+d.text(d.next()%30))
	}
}

// check holds Decode of s against the plain one, and what it answers against Encode.
func check(t *testing.T, s string) {
	t.Helper()
	text, err := plainDecode(s)
	expect(t, "any bytes", s, text, err)
	if got, e := Decode(s); e == api.OK {
		if again, f := Encode(got); again != s || f != api.OK {
			t.Fatalf("Encode(Decode(%q)) = %q, %d", s, again, f)
		}
	}
}

func TestNewMemory(t *testing.T) {
	text := "what is decoded"
	s, _ := Encode(text)
	got, _ := Decode(s)
	from := uintptr(unsafe.Pointer(unsafe.StringData(s)))
	at := uintptr(unsafe.Pointer(unsafe.StringData(got)))
	if got != text || at >= from && at < from+uintptr(len(s)) {
		t.Error("what is answered is a piece of what was handed in")
	}
}

func FuzzDecode(f *testing.F) {
	for _, text := range []string{"", "ab", strings.Repeat("x", 256)} {
		s, _ := Encode(text)
		f.Add(s)
	}
	f.Add(made(7, groups(257), "ab"))
	f.Fuzz(func(t *testing.T, s string) {
		check(t, s)
		got, err := Encode(s)
		if len(s) > api.MaxDict {
			if got != "" || err != api.ErrLong {
				t.Fatalf("Encode of %d bytes = %q, %d", len(s), got, err)
			}
			return
		}
		expect(t, "what was encoded", got, s, api.OK)
	})
}
