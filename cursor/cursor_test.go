package cursor

import (
	"math"
	"slices"
	"strings"
	"testing"
)

// wrong are numbers in groups that are none.
var wrong = []string{
	"",
	"\x80",
	"\xFF\xFF",
	"\x80\x00",
	"\xFF\x00",
	"\x80\x80\x00",
	"\x80\x80\x80\x80\x80\x80\x80\x80\x80",
	"\xFF\xFF\xFF\xFF\xFF\xFF\xFF\xFF\x00",
	"\xFF\xFF\xFF\xFF\xFF\xFF\xFF\xFF\xFF\x00",
	"\x80\x80\x80\x80\x80\x80\x80\x80\x80\x02",
	"\xFF\xFF\xFF\xFF\xFF\xFF\xFF\xFF\xFF\x02",
	"\xFF\xFF\xFF\xFF\xFF\xFF\xFF\xFF\xFF\x03",
	"\xFF\xFF\xFF\xFF\xFF\xFF\xFF\xFF\xFF\x7F",
	"\xFF\xFF\xFF\xFF\xFF\xFF\xFF\xFF\xFF\x80",
	"\xFF\xFF\xFF\xFF\xFF\xFF\xFF\xFF\xFF\x81",
	"\x80\x80\x80\x80\x80\x80\x80\x80\x80\x80\x01",
	"\x80\x80\x80\x80\x80\x80\x80\x80\x80\x81\x00",
	"\xFF\xFF\xFF\xFF\xFF\xFF\xFF\xFF\xFF\xFF\xFF\xFF",
}

// groups are numbers, and their bytes.
var groups = []struct {
	v    uint64
	text string
}{
	{0, "\x00"},
	{1, "\x01"},
	{127, "\x7F"},
	{128, "\x80\x01"},
	{129, "\x81\x01"},
	{255, "\xFF\x01"},
	{256, "\x80\x02"},
	{300, "\xAC\x02"},
	{1<<14 - 1, "\xFF\x7F"},
	{1 << 14, "\x80\x80\x01"},
	{1<<63 - 1, "\xFF\xFF\xFF\xFF\xFF\xFF\xFF\xFF\x7F"},
	{1 << 63, "\x80\x80\x80\x80\x80\x80\x80\x80\x80\x01"},
	{1<<63 + 1, "\x81\x80\x80\x80\x80\x80\x80\x80\x80\x01"},
	{math.MaxUint64, "\xFF\xFF\xFF\xFF\xFF\xFF\xFF\xFF\xFF\x01"},
}

// A dice gives the same numbers in every run.
type dice uint64

func (d *dice) next() uint32 {
	*d = *d*6364136223846793005 + 1442695040888963407
	return uint32(*d >> 32)
}

// number makes a number of any width.
func (d *dice) number() uint64 {
	v := uint64(d.next())<<32 | uint64(d.next())
	return v >> (d.next() % 65)
}

// text makes a text of n bytes.
func (d *dice) text(n int) string {
	b := make([]byte, n)
	for i := range b {
		b[i] = byte(d.next())
	}
	return string(b)
}

// is fails if got isn't want.
func is[T comparable](t *testing.T, got, want T) {
	t.Helper()
	if got != want {
		t.Fatalf("%#v, not %#v", got, want)
	}
}

// bad fails if r isn't bad, or doesn't stay so.
func bad(t *testing.T, r *Reader) {
	t.Helper()
	for range 2 {
		is(t, r.Bad(), true)
		is(t, r.Done(), false)
		for _, n := range []int{math.MinInt, -1, 0, 1, 8, math.MaxInt} {
			is(t, r.Fixed(n), 0)
			is(t, r.Raw(n), "")
			is(t, r.Text(n), "")
			is(t, r.Int(n), 0)
		}
		is(t, r.Group(), 0)
		is(t, r.Rest(), "")
	}
}

// good fails if r is bad, or has anything else left than rest.
func good(t *testing.T, r *Reader, rest string) {
	t.Helper()
	is(t, r.Bad(), false)
	is(t, r.Done(), rest == "")
	is(t, r.Rest(), rest)
	is(t, r.Rest(), "")
	is(t, r.Bad(), false)
	is(t, r.Done(), true)
}

func TestExample(t *testing.T) {
	var w Writer
	is(t, w.Group(300).String(), "\xAC\x02")
	r := New("\xAC\x02")
	is(t, r.Group(), 300)
	good(t, r, "")
}

func TestFixedAtEachNumberOfBytes(t *testing.T) {
	const v = 0xF1E2D3C4B5A69788
	const text = "\x88\x97\xA6\xB5\xC4\xD3\xE2\xF1"
	for n := range 9 {
		var w Writer
		is(t, w.Fixed(v, n).String(), text[:n])
		low := uint64(0)
		for i := range n {
			low |= uint64(text[i]) << (8 * i)
		}
		r := New(text[:n] + "rest")
		is(t, r.Fixed(n), low)
		good(t, r, "rest")
	}
}

func TestFixedBringsItsNumberOfBytes(t *testing.T) {
	for _, n := range []int{-1, -8, math.MinInt} {
		var w Writer
		is(t, w.Fixed(math.MaxUint64, n).String(), "")
		r := New("12345678")
		is(t, r.Fixed(n), 0)
		good(t, r, "12345678")
	}
	for _, n := range []int{9, 10, 64, 1 << 32, math.MaxInt} {
		var w Writer
		is(t, w.Fixed(math.MaxUint64-1, n).String(), "\xFE\xFF\xFF\xFF\xFF\xFF\xFF\xFF")
		r := New("\xFE\xFF\xFF\xFF\xFF\xFF\xFF\xFF9")
		is(t, r.Fixed(n), math.MaxUint64-1)
		good(t, r, "9")
	}
}

func TestFixedThatIsNotThere(t *testing.T) {
	for n := 1; n < 12; n++ {
		for has := range min(n, 8) {
			r := New("\x01\x02\x03\x04\x05\x06\x07"[:has])
			is(t, r.Fixed(n), 0)
			bad(t, r)
		}
	}
}

func TestGroups(t *testing.T) {
	for _, g := range groups {
		var w Writer
		is(t, w.Group(g.v).String(), g.text)
		r := New(g.text + "\x80")
		is(t, r.Group(), g.v)
		good(t, r, "\x80")
	}
}

func TestGroupsAtEachWidth(t *testing.T) {
	for n := range 64 {
		for _, v := range []uint64{1 << n, 1<<n | 1, 1<<n - 1} {
			var w Writer
			s := w.Group(v).String()
			want := 1
			for v>>(7*want) != 0 {
				want++
			}
			is(t, len(s), want)
			r := New(s)
			is(t, r.Group(), v)
			good(t, r, "")
		}
	}
}

func TestGroupsThatAreNone(t *testing.T) {
	for _, s := range wrong {
		r := New(s)
		is(t, r.Group(), 0)
		bad(t, r)
		r = New(s)
		is(t, r.Int(math.MaxInt), 0)
		bad(t, r)
		r = New(s)
		is(t, r.Text(math.MaxInt), "")
		bad(t, r)
	}
}

func TestGroupsWithoutTheirLastByte(t *testing.T) {
	for _, g := range groups {
		for n := range g.text {
			r := New(g.text[:n])
			is(t, r.Group(), 0)
			bad(t, r)
		}
	}
}

func TestGroupsThatTakeMoreBytesThanTheyNeed(t *testing.T) {
	for _, g := range groups {
		last := len(g.text) - 1
		longer := g.text[:last] + string([]byte{g.text[last] | 0x80, 0})
		r := New(longer)
		is(t, r.Group(), 0)
		bad(t, r)
	}
}

func TestRaw(t *testing.T) {
	var w Writer
	is(t, w.Raw("").String(), "")
	is(t, w.Raw("a\x00\xFF").Raw("").Raw("b").String(), "a\x00\xFFb")
	r := New("a\x00\xFFb")
	is(t, r.Raw(0), "")
	is(t, r.Raw(-1), "")
	is(t, r.Raw(math.MinInt), "")
	is(t, r.Raw(3), "a\x00\xFF")
	is(t, r.Raw(1), "b")
	is(t, r.Raw(0), "")
	is(t, r.Raw(-7), "")
	good(t, r, "")
	for _, n := range []int{3, 4, 1 << 32, math.MaxInt} {
		r := New("ab")
		is(t, r.Raw(n), "")
		bad(t, r)
	}
}

func TestText(t *testing.T) {
	long := strings.Repeat("x", 300)
	for _, c := range []struct{ text, bytes string }{
		{"", "\x00"},
		{"a", "\x01a"},
		{"a\x00\xFF", "\x03a\x00\xFF"},
		{long[:127], "\x7F" + long[:127]},
		{long[:128], "\x80\x01" + long[:128]},
		{long, "\xAC\x02" + long},
	} {
		var w Writer
		is(t, w.Text(c.text).String(), c.bytes)
		n := len(c.text)
		for _, most := range []int{n, n + 1, math.MaxInt} {
			r := New(c.bytes + "z")
			is(t, r.Text(most), c.text)
			good(t, r, "z")
		}
		for _, most := range []int{n - 1, -1, math.MinInt} {
			r := New(c.bytes + "z")
			is(t, r.Text(most), "")
			bad(t, r)
		}
		for at := range c.bytes {
			r := New(c.bytes[:at])
			is(t, r.Text(math.MaxInt), "")
			bad(t, r)
		}
	}
}

func TestTextThatIsLongerThanAnythingIs(t *testing.T) {
	for _, g := range groups[9:] {
		r := New(g.text + "abc")
		is(t, r.Text(math.MaxInt), "")
		bad(t, r)
	}
}

func TestInt(t *testing.T) {
	for _, g := range groups[:11] {
		v := int(g.v)
		for _, most := range []int{v, max(v, v+1), math.MaxInt} {
			r := New(g.text + "z")
			is(t, r.Int(most), v)
			good(t, r, "z")
		}
		for _, most := range []int{v - 1, -1, math.MinInt} {
			r := New(g.text + "z")
			is(t, r.Int(most), 0)
			bad(t, r)
		}
	}
	for _, g := range groups[11:] {
		for _, most := range []int{math.MinInt, -1, 0, math.MaxInt} {
			r := New(g.text)
			is(t, r.Int(most), 0)
			bad(t, r)
		}
	}
}

func TestRest(t *testing.T) {
	good(t, New(""), "")
	good(t, New("\x00"), "\x00")
	good(t, New("abc"), "abc")
	r := New("abc")
	r.Raw(2)
	good(t, r, "c")
	is(t, r.Raw(1), "")
	bad(t, r)
}

func TestDoneReadsNothing(t *testing.T) {
	r := New("ab")
	is(t, r.Done(), false)
	is(t, r.Bad(), false)
	is(t, r.Raw(2), "ab")
	is(t, r.Done(), true)
	is(t, r.Bad(), false)
	is(t, r.Fixed(1), 0)
	bad(t, r)
}

func TestBadForEverThoughBytesAreLeft(t *testing.T) {
	for _, f := range []func(r *Reader){
		func(r *Reader) { r.Raw(9) },
		func(r *Reader) { r.Int(4) },
		func(r *Reader) { r.Text(4) },
		func(r *Reader) { r.Text(5) },
		func(r *Reader) { r.Raw(1); r.Fixed(5) },
		func(r *Reader) { r.Raw(1); r.Group() },
	} {
		r := New("\x05\x80\x00\x01z")
		f(r)
		bad(t, r)
	}
}

func TestEachCallAnswersItsWriter(t *testing.T) {
	var w Writer
	for _, n := range []int{-1, 0, 3, 9} {
		is(t, w.Fixed(7, n), &w)
	}
	is(t, w.Group(0), &w)
	is(t, w.Group(math.MaxUint64), &w)
	is(t, w.Raw(""), &w)
	is(t, w.Raw("a"), &w)
	is(t, w.Text(""), &w)
	is(t, w.Text("a"), &w)
}

func TestStringLeavesTheWriter(t *testing.T) {
	var w Writer
	is(t, w.String(), "")
	is(t, w.Raw("a").String(), "a")
	is(t, w.String(), "a")
	is(t, w.Group(5).String(), "a\x05")
}

func TestNil(t *testing.T) {
	var w *Writer
	for _, n := range []int{math.MinInt, 0, 8, math.MaxInt} {
		is(t, w.Fixed(1, n), nil)
	}
	is(t, w.Group(0), nil)
	is(t, w.Group(math.MaxUint64), nil)
	is(t, w.Raw(""), nil)
	is(t, w.Raw("a"), nil)
	is(t, w.Text(""), nil)
	is(t, w.Text("a"), nil)
	is(t, w.String(), "")
	bad(t, nil)
}

func TestZeroReaderReadsNothing(t *testing.T) {
	good(t, &Reader{}, "")
	var r Reader
	is(t, r.Group(), 0)
	bad(t, &r)
}

func TestCopiesGoOnByThemselves(t *testing.T) {
	var a Writer
	for i := range 40 {
		a.Fixed(uint64(i), 1)
		b := a
		b.Raw("b")
		before := a.String()
		a.Raw("a")
		is(t, b.String(), before+"b")
		is(t, a.String(), before+"a")
	}
	r := New("abcd")
	r.Raw(1)
	s := *r
	is(t, s.Raw(2), "bc")
	is(t, r.Raw(9), "")
	bad(t, r)
	good(t, &s, "d")
}

func TestWhatIsWrittenIsRead(t *testing.T) {
	d := dice(1)
	for range 300 {
		var w Writer
		var reads []func(r *Reader)
		for range d.next() % 60 {
			reads = append(reads, write(t, &d, &w))
		}
		rest := d.text(int(d.next() % 5))
		r := New(w.String() + rest)
		for _, read := range reads {
			read(r)
		}
		good(t, r, rest)
	}
}

// write puts anything into w, and answers what reads it.
func write(t *testing.T, d *dice, w *Writer) func(r *Reader) {
	v := d.number()
	s := d.text(int(d.next() % 200))
	switch d.next() % 5 {
	case 0:
		n := int(d.next()%12) - 2
		w.Fixed(v, n)
		if n < 8 {
			v &= 1<<(8*max(n, 0)) - 1
		}
		return func(r *Reader) { is(t, r.Fixed(n), v) }
	case 1:
		w.Group(v)
		return func(r *Reader) { is(t, r.Group(), v) }
	case 2:
		w.Raw(s)
		return func(r *Reader) { is(t, r.Raw(len(s)), s) }
	case 3:
		w.Text(s)
		return func(r *Reader) { is(t, r.Text(200), s) }
	}
	v >>= 1
	w.Group(v)
	return func(r *Reader) { is(t, r.Int(int(v)), int(v)) }
}

func TestManyBytes(t *testing.T) {
	const n = 1 << 18
	var w Writer
	for i := range uint64(n) {
		w.Fixed(i, 4).Group(i)
	}
	long := strings.Repeat("0123456789abcdef", 1<<20)
	r := New(w.Text(long).String())
	for i := range uint64(n) {
		is(t, r.Fixed(4), i)
		is(t, r.Group(), i)
	}
	if r.Text(len(long)) != long {
		t.Fatal("the long text isn't there")
	}
	good(t, r, "")
}

func FuzzRead(f *testing.F) {
	for _, g := range groups {
		f.Add(g.text, []byte{1, 6})
	}
	for _, s := range wrong {
		f.Add(s, []byte{1})
	}
	f.Add("\x01a\x03abcxyz", []byte{3, 7, 4, 2, 1, 0})
	f.Fuzz(func(t *testing.T, text string, calls []byte) {
		r := New(text)
		var w Writer
		for i, c := range slices.Concat(calls, []byte{15}) {
			before := w
			again(r, &w, int(c%8), int(c/8)-2)
			if r.Bad() {
				bad(t, r)
				w = before
				break
			}
			if !strings.HasPrefix(text, w.String()) {
				t.Fatalf("call %d: %q is none of %q", i, w.String(), text)
			}
			is(t, r.Done(), w.String() == text)
		}
		if !strings.HasPrefix(text, w.String()) {
			t.Fatalf("%q is none of %q", w.String(), text)
		}
	})
}

// again reads by a call and n, and writes what was read into w.
func again(r *Reader, w *Writer, call, n int) {
	switch call {
	case 0:
		w.Fixed(r.Fixed(n), n)
	case 1:
		w.Group(r.Group())
	case 2:
		w.Raw(r.Raw(n))
	case 3:
		w.Text(r.Text(n))
	case 4:
		w.Group(uint64(r.Int(n)))
	case 5:
		w.Group(uint64(r.Int(math.MaxInt)))
	case 6:
		w.Text(r.Text(math.MaxInt))
	default:
		w.Raw(r.Rest())
	}
}
