package sum

import (
	"math"
	"slices"
	"strings"
	"testing"
)

// all has each byte once, in order.
var all = func() string {
	b := make([]byte, 256)
	for i := range b {
		b[i] = byte(i)
	}
	return string(b)
}()

// texts are texts, the states behind them, and their sums, worked out beside the program.
var texts = []struct {
	text  string
	state State
	sum   uint64
}{
	{"", State{0x6A09E667F3BCC908, 0}, 0x456308AEAB026666},
	{"\x00", State{0x298B6BAAC87700F4, 1}, 0xCA3F7D253231A728},
	{"\x00\x00", State{0xB3468E4AF2F5367F, 2}, 0x08770FC69BAEC7FF},
	{"a", State{0x1C908AF45BE13638, 1}, 0x2BF55C8E49F070BF},
	{"ab", State{0xD127DCA072EFE855, 2}, 0x1A209FE30190263C},
	{"ba", State{0xFFA947B169BBE0FE, 2}, 0xE86F07BA35659EBA},
	{"abc", State{0x8243636399DF2F52, 3}, 0xEE8419C3A5D024AE},
	{"\x80", State{0x4548486903282B71, 1}, 0x2D3895C74D54CAA5},
	{"\xFF", State{0xDF560FDFA0064B89, 1}, 0xC92128606C2620DA},
	{"pemmican", State{0xA06DB39D72820F04, 8}, 0x355F95CCFB7D0E60},
	{all, State{0x902E4CDF38A376E1, 256}, 0x056AFF7A8DAB19E3},
	{strings.Repeat("\xFF", 1000), State{0x3B84573050C016FD, 1000}, 0x17771EB025A156CD},
}

// states are states that need not be behind any bytes, what a byte more makes of them, and their sums.
var states = []struct {
	state State
	more  byte
	next  State
	sum   uint64
}{
	{State{}, 0, State{0, 1}, 0},
	{State{}, 1, State{0x9E3779BD8EF1B1DE, 1}, 0},
	{State{}, 0xFF, State{0x99423FC1012066C5, 1}, 0},
	{State{1, 0}, 1, State{0, 1}, 0xBF58476DA3BCA2D4},
	{State{0, 1}, 0, State{0, 2}, 0xBF58476DA3BCA2D4},
	{State{0, math.MaxUint64}, 0, State{0, 0}, 0x40A7B892A3BCA2D5},
	{State{math.MaxUint64, 0}, 0, State{0x61C886458EF1B1DF, 1}, 0x40A7B892A3BCA2D5},
	{State{math.MaxUint64, 1}, 0xFF, State{0xC8864686F1B1DF05, 2}, 0},
	{State{math.MaxUint64, math.MaxUint64}, 0x80, State{0x460BA984EB2A355D, 0}, 0x814F7125477945AB},
	{State{1 << 63, 1 << 63}, 0, State{0x8000000400000000, 1<<63 + 1}, 0},
	{State{0x0123456789ABCDEF, 0xFEDCBA9876543210}, 0xFF, State{0x3A409F206B0F6B5D, 0xFEDCBA9876543211}, 0x40A7B892A3BCA2D5},
}

// A dice gives the same numbers in every run.
type dice uint64

func (d *dice) next() uint32 {
	*d = *d*6364136223846793005 + 1442695040888963407
	return uint32(*d >> 32)
}

// text makes a text of n bytes.
func (d *dice) text(n int) string {
	b := make([]byte, n)
	for i := range b {
		b[i] = byte(d.next())
	}
	return string(b)
}

// is fails if got isn't want.
func is[T comparable](t *testing.T, got, want T) {
	t.Helper()
	if got != want {
		t.Fatalf("%#v, not %#v", got, want)
	}
}

// agree fails if the calls don't tell the same of the two halves of s that meet at i, of s, and of its bytes one by one.
func agree(t *testing.T, s string, i int) {
	t.Helper()
	one := New()
	sums := make([]uint64, 0, len(s))
	for _, b := range []byte(s) {
		one = one.Byte(b)
		sums = append(sums, one.Sum())
	}
	is(t, New().Add(s), one)
	is(t, New().Add(s[:i]).Add(s[i:]), one)
	is(t, one.N, uint64(len(s)))
	is(t, Of(s), one.Sum())
	if got := Prefixes(s); !slices.Equal(got, sums) {
		t.Fatalf("%x, not %x", got, sums)
	}
}

func TestExample(t *testing.T) {
	is(t, New().Add("ab"), New().Add("a").Add("b"))
	is(t, State{}.Add("ab"), State{}.Add("a").Add("b"))
	is(t, New().Add("ab"), New().Byte('a').Byte('b'))
}

func TestFirstState(t *testing.T) {
	is(t, New(), State{0x6A09E667F3BCC908, 0})
	is(t, New().Sum(), Of(""))
}

func TestTexts(t *testing.T) {
	for _, c := range texts {
		is(t, New().Add(c.text), c.state)
		is(t, c.state.Sum(), c.sum)
		is(t, Of(c.text), c.sum)
	}
}

func TestAnyState(t *testing.T) {
	for _, c := range states {
		is(t, c.state.Byte(c.more), c.next)
		is(t, c.state.Add(string([]byte{c.more})), c.next)
		is(t, c.state.Add(""), c.state)
		is(t, c.state.Sum(), c.sum)
	}
}

func TestStateStaysAsItWas(t *testing.T) {
	s := New().Add("pemmi")
	kept := s
	s.Byte('c')
	s.Add("can")
	s.Sum()
	is(t, s, kept)
	is(t, s.Add("can").Sum(), 0x355F95CCFB7D0E60)
	is(t, New(), State{0x6A09E667F3BCC908, 0})
}

func TestBytesThatAreNoRunes(t *testing.T) {
	for b := range 256 {
		s := string([]byte{byte(b)})
		is(t, New().Add(s), New().Byte(byte(b)))
		is(t, Of(s), New().Byte(byte(b)).Sum())
		is(t, Prefixes(s)[0], Of(s))
	}
	is(t, New().Add("é"), New().Byte(0xC3).Byte(0xA9))
}

func TestPrefixes(t *testing.T) {
	is(t, len(Prefixes("")), 0)
	want := []uint64{0x2BF55C8E49F070BF, 0x1A209FE30190263C, 0xEE8419C3A5D024AE}
	if got := Prefixes("abc"); !slices.Equal(got, want) {
		t.Fatalf("%x, not %x", got, want)
	}
	for _, c := range texts {
		sums := Prefixes(c.text)
		is(t, len(sums), len(c.text))
		for i, v := range sums {
			is(t, v, Of(c.text[:i+1]))
		}
	}
}

func TestPrefixesAreTheCallers(t *testing.T) {
	a := Prefixes("abc")
	clear(a)
	a = append(a[:0], 1, 2, 3)
	is(t, Prefixes("abc")[2], 0xEE8419C3A5D024AE)
	is(t, a[2], 3)
}

func TestLikeTextsTellApart(t *testing.T) {
	seen := map[uint64]string{}
	for _, s := range []string{"", "\x00", "\x00\x00", "\x00\x00\x00", "a", "a\x00", "\x00a", "ab", "ba", "aab", "aba", "baa"} {
		if other, ok := seen[Of(s)]; ok {
			t.Fatalf("%q has the sum of %q", s, other)
		}
		seen[Of(s)] = s
	}
}

func TestAnyTextInAnyHalves(t *testing.T) {
	d := dice(4)
	for n := range 300 {
		s := d.text(n)
		agree(t, s, int(d.next())%(n+1))
	}
	agree(t, d.text(1<<16), 1<<15)
}

func FuzzHalves(f *testing.F) {
	f.Add("", "")
	f.Add("a", "b")
	f.Add("\xC3", "\xA9\x00")
	f.Fuzz(func(t *testing.T, a, b string) {
		agree(t, a+b, len(a))
	})
}
