package chain

import (
	"fmt"
	"math"
	"slices"
	"strings"
	"testing"
)

// An asked is what Find is to answer of a text, when places were noted in that order.
type asked struct {
	text           string
	noted          []int
	at, depth      int
	offset, length int
}

// matches were worked out beside the program.
var matches = []asked{
	// As the chapter has it.
	{"abcabcx", []int{0}, 3, 9, 3, 3},
	{"abcabcx", []int{0}, 3, 1, 3, 3},
	{"abcabcx", []int{0, 1, 2, 3}, 3, 9, 3, 3},
	// Nothing noted, nothing the same, no three bytes the same.
	{"abcabcx", nil, 3, 9, 0, 0},
	{"abcabcx", []int{1, 2}, 3, 9, 0, 0},
	{"abcabdx", []int{0, 1, 2}, 3, 9, 0, 0},
	{"abcxbcy", []int{0, 1}, 4, 9, 0, 0},
	{"abcxbcx", []int{0, 1}, 4, 9, 3, 3},
	// The match that there is begins with other bytes than noted ones.
	{"abcdabcd", []int{0}, 5, 9, 0, 0},
	{"abcdabcd", []int{1}, 5, 9, 4, 3},
	// Both overlap.
	{"aaaa", []int{0}, 1, 9, 1, 3},
	{"aaaaaaaaaa", []int{0}, 1, 9, 1, 9},
	{"ababababx", []int{0}, 2, 9, 2, 6},
	{"abcabcabc", []int{0, 1, 2}, 3, 9, 3, 6},
	// Up to the text's end.
	{"abcdabcd", []int{0}, 4, 9, 4, 4},
	{"abcabc", []int{0}, 3, 9, 3, 3},
	{"abcabcabc", []int{0, 3}, 6, 9, 3, 3},
	// Zero bytes, and high ones.
	{"\x00\x00\x00\x00\x00", []int{0}, 2, 9, 2, 3},
	{"\xff\xfe\x80\xff\xfe\x80\xff", []int{0}, 3, 9, 3, 4},
	{"\x00\x00\x01\x00\x01\x00\x01\x00\x00", []int{0, 1, 2}, 4, 9, 2, 4},
	// Places that aren't below don't match, and neither does the place itself.
	{"abcabcx", []int{3}, 3, 9, 0, 0},
	{"abcabcx", []int{3}, 0, 9, 0, 0},
	{"abcabcabc", []int{6, 3, 0}, 0, 9, 0, 0},
	{"abcabcabc", []int{6, 3, 0}, 3, 9, 3, 6},
	// The longest one is found, whether it was noted first or last.
	{"abcdeabcxxabcde", []int{0, 5}, 10, 9, 10, 5},
	{"abcdeabcxxabcde", []int{5, 0}, 10, 9, 10, 5},
	{"abcxxabcdeabcde", []int{0, 5}, 10, 9, 5, 5},
	{"abcxxabcdeabcde", []int{5, 0}, 10, 9, 5, 5},
	// Of several as long the nearest, whether it was noted first or last.
	{"abcxabcyabcz", []int{0, 4}, 8, 9, 4, 3},
	{"abcxabcyabcz", []int{4, 0}, 8, 9, 4, 3},
	{"abcxabcyabczabcw", []int{4, 0, 8}, 12, 9, 4, 3},
	{"abcxabcyabczabcw", []int{4, 8, 0}, 12, 9, 4, 3},
	{"abcxabcyabczabcw", []int{8, 4, 0}, 12, 9, 4, 3},
	{"abcxabcxabcyabcx", []int{4, 0, 8}, 12, 9, 8, 4},
	// So many places noted last, and no others.
	{"abcdeabcxxabcde", []int{0, 5}, 10, 1, 5, 3},
	{"abcdeabcxxabcde", []int{0, 5}, 10, 2, 10, 5},
	{"abcdeabcxxabcde", []int{5, 0}, 10, 1, 10, 5},
	{"abcxabcyabcz", []int{4, 0}, 8, 1, 8, 3},
	{"abcxabcyabczabcw", []int{8, 4, 0}, 12, 1, 12, 3},
	{"abcxabcyabczabcw", []int{8, 4, 0}, 12, 2, 8, 3},
	{"abcxabcyabczabcw", []int{8, 4, 0}, 12, 3, 4, 3},
	// Those not below count, too: the place itself, and those behind it.
	{"abcabcx", []int{0, 3}, 3, 1, 0, 0},
	{"abcabcx", []int{0, 3}, 3, 2, 3, 3},
	{"abcabcx", []int{3, 0}, 3, 1, 3, 3},
	{"abcxabcyabczabcw", []int{0, 8, 12}, 4, 1, 0, 0},
	{"abcxabcyabczabcw", []int{0, 8, 12}, 4, 2, 0, 0},
	{"abcxabcyabczabcw", []int{0, 8, 12}, 4, 3, 4, 3},
	{"abcxabcyabczabcw", []int{0, 4, 8, 12}, 4, 3, 0, 0},
	{"abcxabcyabczabcw", []int{0, 4, 8, 12}, 4, 4, 4, 3},
	{"abcxabcyabczabcw", []int{8, 0, 12}, 4, 2, 4, 3},
	// Those that begin with other bytes don't.
	{"abcdeabcdexxabcy", []int{0, 1, 2, 3, 4, 6, 7, 8}, 12, 1, 12, 3},
	{"abcdeabcdexxabcy", []int{0, 5, 1, 2, 3, 4, 6, 7, 8}, 12, 1, 7, 3},
	// No place is looked at.
	{"abcabcx", []int{0}, 3, 0, 0, 0},
	{"abcabcx", []int{0}, 3, -1, 0, 0},
	{"abcabcx", []int{0}, 3, math.MinInt, 0, 0},
	{"abcabcx", []int{0}, 3, math.MaxInt, 3, 3},
	// No place with three bytes from it on.
	{"abcabc", []int{0, 1, 2}, 4, 9, 0, 0},
	{"abcabc", []int{0, 1, 2}, 5, 9, 0, 0},
	{"abcabc", []int{0, 1, 2}, 6, 9, 0, 0},
	{"abcabc", []int{0, 1, 2}, 7, 9, 0, 0},
	{"abcabc", []int{0, 1, 2}, -1, 9, 0, 0},
	{"abcabc", []int{0, 1, 2}, math.MaxInt, 9, 0, 0},
	{"abcabc", []int{0, 1, 2}, math.MinInt, 9, 0, 0},
	{"", nil, 0, 9, 0, 0},
	{"ab", nil, 0, 9, 0, 0},
	{"abc", []int{0}, 0, 9, 0, 0},
}

// wrongPlaces are places of no text.
var wrongPlaces = []int{-1, -2, -3, -2000, math.MinInt, math.MinInt + 2, math.MinInt32, 2000, 2001, 65536, 1 << 32, math.MaxInt - 2, math.MaxInt}

// A dice gives the same numbers in every run.
type dice uint64

func (d *dice) next() int {
	*d = *d*6364136223846793005 + 1442695040888963407
	return int(*d >> 33)
}

// text makes a text of n bytes, of so many letters.
func (d *dice) text(n, letters int) string {
	b := make([]byte, n)
	for i := range b {
		b[i] = byte(d.next() % letters)
	}
	return string(b)
}

// order makes the places below n, in any order.
func (d *dice) order(n int) []int {
	l := make([]int, n)
	for i := range l {
		j := d.next() % (i + 1)
		l[i], l[j] = l[j], i
	}
	return l
}

// A plain finder has its places in a list, as they were noted.
type plain struct {
	text   string
	places []int
}

func (p *plain) note(at int) bool {
	if at < 0 || at > len(p.text)-3 || slices.Contains(p.places, at) {
		return false
	}
	p.places = append(p.places, at)
	return true
}

func (p *plain) find(at, depth int) (int, int) {
	if at < 0 || at > len(p.text)-3 {
		return 0, 0
	}
	var alike []int
	for _, place := range slices.Backward(p.places) {
		if p.text[place:place+3] == p.text[at:at+3] {
			alike = append(alike, place)
		}
	}
	alike = alike[:min(len(alike), max(depth, 0), 1000)]
	offset, length := 0, 0
	// The nearest one comes first, so that no other one as long takes its place.
	slices.Sort(alike)
	for _, place := range slices.Backward(alike) {
		if n := alikeBytes(p.text[place:], p.text[at:]); place < at && n > length {
			offset, length = at-place, n
		}
	}
	return offset, length
}

// alikeBytes tells with how many bytes a and b begin alike.
func alikeBytes(a, b string) int {
	for n := range min(len(a), len(b)) {
		if a[n] != b[n] {
			return n
		}
	}
	return min(len(a), len(b))
}

// both are a finder and a plain one of the same text.
type both struct {
	f *Finder
	p plain
}

func twice(text string) *both {
	return &both{New(text), plain{text: text[:min(len(text), 2000)]}}
}

// note fails if Note doesn't answer as it must.
func (b *both) note(t *testing.T, at int) {
	t.Helper()
	if got, want := b.f.Note(at), b.p.note(at); got != want {
		t.Fatalf("Note(%d): %v, not %v, of %.40q, %v noted", at, got, want, b.p.text, b.p.places)
	}
}

// find fails if Find doesn't answer as it must.
func (b *both) find(t *testing.T, at, depth int) {
	t.Helper()
	offset, length := b.p.find(at, depth)
	if gotOffset, gotLength := b.f.Find(at, depth); gotOffset != offset || gotLength != length {
		t.Fatalf("Find(%d, %d): %d, %d, not %d, %d, of %.40q, %v noted", at, depth, gotOffset, gotLength, offset, length, b.p.text, b.p.places)
	}
}

// finder notes places, each of which it must be able to.
func finder(t *testing.T, text string, places ...int) *Finder {
	t.Helper()
	f := New(text)
	for _, at := range places {
		if !f.Note(at) {
			t.Fatalf("Note(%d) of %.40q: false", at, text)
		}
	}
	return f
}

// found fails if Find doesn't answer so.
func found(t *testing.T, f *Finder, at, depth, offset, length int) {
	t.Helper()
	if gotOffset, gotLength := f.Find(at, depth); gotOffset != offset || gotLength != length {
		t.Fatalf("Find(%d, %d): %d, %d, not %d, %d", at, depth, gotOffset, gotLength, offset, length)
	}
}

func TestExample(t *testing.T) {
	found(t, finder(t, "abcabcx", 0), 3, 9, 3, 3)
}

func TestMatchesWorkedOut(t *testing.T) {
	for _, m := range matches {
		t.Run(fmt.Sprintf("%q %v %d %d", m.text, m.noted, m.at, m.depth), func(t *testing.T) {
			f := finder(t, m.text, m.noted...)
			found(t, f, m.at, m.depth, m.offset, m.length)
			// To ask changes nothing.
			found(t, f, m.at, m.depth, m.offset, m.length)
			p := plain{m.text, m.noted}
			if offset, length := p.find(m.at, m.depth); offset != m.offset || length != m.length {
				t.Fatal(offset, length)
			}
		})
	}
}

func TestWhatIsNoted(t *testing.T) {
	f := New("abcdef")
	for _, at := range []int{3, 0, 2, 1} {
		if !f.Note(at) {
			t.Fatal(at)
		}
		for range 3 {
			if f.Note(at) {
				t.Fatal(at, "twice")
			}
		}
	}
	for at := range 4 {
		if f.Note(at) {
			t.Fatal(at, "twice")
		}
	}
	for _, at := range append([]int{4, 5, 6, 7}, wrongPlaces...) {
		if f.Note(at) {
			t.Fatal(at)
		}
	}
	for _, short := range []string{"", "a", "ab"} {
		for at := -3; at < 5; at++ {
			if New(short).Note(at) {
				t.Fatalf("%q, %d", short, at)
			}
		}
	}
	if g := New("abc"); !g.Note(0) || g.Note(0) || g.Note(1) {
		t.Fatal("abc")
	}
}

func TestARefusedPlaceChangesNothing(t *testing.T) {
	text := "abcxabcyabczabcw"
	f := finder(t, text, 4, 0)
	// What was noted isn't noted anew, so that it isn't the one noted last.
	if f.Note(4) {
		t.Fatal("twice")
	}
	found(t, f, 8, 1, 8, 3)
	found(t, f, 12, 1, 12, 3)
	for _, at := range append([]int{14, 15, 16, 17}, wrongPlaces...) {
		if f.Note(at) {
			t.Fatal(at)
		}
		found(t, f, 8, 1, 8, 3)
		found(t, f, 8, 2, 4, 3)
	}
	if f.Len() != len(text) {
		t.Fatal(f.Len())
	}
}

func TestWrongPlacesAreNotFound(t *testing.T) {
	all := make([]int, 1998)
	for i := range all {
		all[i] = i
	}
	f := finder(t, strings.Repeat("a", 2000), all...)
	for _, at := range append([]int{1998, 1999}, wrongPlaces...) {
		for _, depth := range []int{0, 1, 1000, math.MaxInt} {
			found(t, f, at, depth, 0, 0)
		}
	}
	found(t, f, 1997, 1000, 1, 3)
	found(t, f, 0, 1000, 0, 0)
}

func TestHowManyAreLookedAt(t *testing.T) {
	// Of 1998 places noted in order the last 1000 are those from 998 on.
	b := twice(strings.Repeat("a", 2000))
	for at := range 1998 {
		b.note(t, at)
	}
	for _, depth := range []int{999, 1000, 1001, 1998, 2000, 1 << 16, 1 << 32, math.MaxInt} {
		for _, at := range []int{1, 2, 500, 997, 998, 999, 1000, 1001, 1996, 1997} {
			b.find(t, at, depth)
		}
	}
	found(t, b.f, 998, math.MaxInt, 0, 0)
	found(t, b.f, 999, 1000, 1, 1001)
	found(t, b.f, 999, 999, 0, 0)
	found(t, b.f, 1000, 999, 1, 1000)
	found(t, b.f, 1997, 1, 0, 0)
	found(t, b.f, 1997, 2, 1, 3)
	// Noted the other way round, from the last one: 0 up to 999.
	b = twice(strings.Repeat("a", 2000))
	for at := range 1998 {
		b.note(t, 1997-at)
	}
	found(t, b.f, 1997, 1, 1997, 3)
	found(t, b.f, 1997, 1000, 998, 3)
	found(t, b.f, 1997, 1001, 998, 3)
	found(t, b.f, 1000, 2000, 1, 1000)
	found(t, b.f, 1001, 2000, 2, 999)
	for _, depth := range []int{-1, 0, 1, 2, 999, 1000, 1001, math.MaxInt, math.MinInt} {
		b.find(t, 1500, depth)
	}
}

func TestTheFirst2000Bytes(t *testing.T) {
	for _, n := range []int{1997, 1998, 1999, 2000, 2001, 2002, 2003, 4000, 1 << 20} {
		text := strings.Repeat("abcdefghij", n/10+1)[:n]
		most := min(n, 2000)
		f := finder(t, text, 0, most-13, most-3)
		if f.Len() != most {
			t.Fatal(n, f.Len())
		}
		for at := most - 2; at < most+4; at++ {
			if f.Note(at) {
				t.Fatal(n, at)
			}
			found(t, f, at, 1000, 0, 0)
		}
		// No match goes on behind the 2000 bytes.
		found(t, f, 10, 1000, 10, most-10)
		found(t, f, most-3, 1000, 10, 3)
	}
}

func TestLen(t *testing.T) {
	for n := range 2100 {
		if got := New(strings.Repeat("x", n)).Len(); got != min(n, 2000) {
			t.Fatal(n, got)
		}
	}
}

func TestNoFinder(t *testing.T) {
	var none *Finder
	var zero Finder
	for _, f := range []*Finder{none, &zero, New("")} {
		for _, at := range append([]int{0, 1, 2, 3, 1997, 1999}, wrongPlaces...) {
			if f.Note(at) || f.Len() != 0 {
				t.Fatal(at)
			}
			for _, depth := range []int{0, 1, -1, 1000, math.MaxInt, math.MinInt} {
				found(t, f, at, depth, 0, 0)
			}
		}
	}
}

func TestSame(t *testing.T) {
	for _, s := range []struct {
		text       string
		a, b, want int
	}{
		{"abcabcx", 0, 3, 3},
		{"abcabcx", 3, 0, 3},
		{"abcabcx", 1, 4, 2},
		{"abcabcx", 0, 1, 0},
		{"abcabcx", 0, 0, 7},
		{"abcabcx", 6, 6, 1},
		{"abcabcx", 7, 7, 0},
		{"abcabcx", 0, 7, 0},
		{"abcabcx", 7, 0, 0},
		{"abcabcx", -1, -1, 0},
		{"abcabcx", -1, 0, 0},
		{"abcabcx", 0, -1, 0},
		{"abcabcx", 8, 8, 0},
		{"aaaa", 0, 1, 3},
		{"aaaa", 2, 0, 2},
		{"aaaa", 0, 3, 1},
		{"abab", 0, 2, 2},
		{"ab", 0, 1, 0},
		{"", 0, 0, 0},
		{"", -1, 1, 0},
		{"\x00\x00", 0, 1, 1},
		{"\x80\xff\x80\xfe", 0, 2, 1},
	} {
		if got := Same(s.text, s.a, s.b); got != s.want {
			t.Errorf("Same(%q, %d, %d): %d, not %d", s.text, s.a, s.b, got, s.want)
		}
	}
	for _, text := range []string{"", "aaaa"} {
		for _, a := range wrongPlaces {
			for _, b := range append([]int{0, 1, 3}, wrongPlaces...) {
				if Same(text, a, b) != 0 || Same(text, b, a) != 0 {
					t.Errorf("Same(%q, %d, %d)", text, a, b)
				}
			}
		}
	}
}

func TestSameOfLongTexts(t *testing.T) {
	// Same has no finder, so that all of the text counts.
	text := strings.Repeat("a", 5000)
	for _, at := range []int{0, 1, 1999, 2000, 2001, 4998, 4999, 5000, 5001} {
		want := max(5000-at, 0)
		for _, other := range []int{0, at / 2, at} {
			if got := Same(text, at, other); got != want {
				t.Fatal(at, other, got)
			}
			if got := Same(text, other, at); got != want {
				t.Fatal(other, at, got)
			}
		}
	}
	text = strings.Repeat("x", 3000) + "y" + strings.Repeat("x", 3000) + "z"
	if got := Same(text, 0, 3001); got != 3000 {
		t.Fatal(got)
	}
	if got := Same(text, 3000, 3000); got != 3002 {
		t.Fatal(got)
	}
}

func TestSameOfEachShortText(t *testing.T) {
	for i := range 1 << 8 {
		text := fmt.Sprintf("%08b", i)
		for a := -2; a < 11; a++ {
			for b := -2; b < 11; b++ {
				want := 0
				if min(a, b) >= 0 && max(a, b) < len(text) {
					want = alikeBytes(text[a:], text[b:])
				}
				if got := Same(text, a, b); got != want {
					t.Fatalf("Same(%q, %d, %d): %d, not %d", text, a, b, got, want)
				}
			}
		}
	}
}

// eachOrder calls do with each order of each of the places below n.
func eachOrder(n int, do func([]int)) {
	var more func(l []int)
	more = func(l []int) {
		do(l)
		for at := range n {
			if !slices.Contains(l, at) {
				more(append(slices.Clone(l), at))
			}
		}
	}
	more(nil)
}

func TestEachShortTextInEachOrder(t *testing.T) {
	for i := range 1 << 6 {
		text := fmt.Sprintf("%06b", i)
		eachOrder(4, func(l []int) {
			b := twice(text)
			for _, at := range l {
				b.note(t, at)
			}
			for at := -1; at < 7; at++ {
				for depth := -1; depth < 6; depth++ {
					b.find(t, at, depth)
				}
			}
			for at := -1; at < 7; at++ {
				b.note(t, at)
			}
		})
	}
}

func TestAnyTexts(t *testing.T) {
	d := dice(11)
	for _, letters := range []int{1, 2, 3, 4, 8, 20, 256} {
		for range 20 {
			b := twice(d.text(3+d.next()%200, letters))
			n := len(b.p.text)
			for _, at := range d.order(n) {
				b.note(t, at-d.next()%4)
				b.find(t, d.next()%n, d.next()%6)
				b.find(t, d.next()%n, d.next()%300)
			}
			for at := range n + 2 {
				b.find(t, at, d.next()%9)
				b.find(t, at, 1000)
			}
		}
	}
}

func TestManyUnlikeBytes(t *testing.T) {
	// Far more than there are places: some of them are kept beside others that begin with other bytes, and these count for nothing.
	d := dice(2000)
	for range 6 {
		piece := d.text(40, 256)
		text := piece + d.text(1800, 256) + piece + piece[:7] + d.text(100, 256)
		b := twice(text)
		for at := range len(b.p.text) {
			b.note(t, at)
		}
		for _, depth := range []int{1, 2, 3, 4, 1000} {
			for at := range len(b.p.text) {
				b.find(t, at, depth)
			}
		}
		for at := range 38 {
			// Ahead of the one that matches two were noted later: the place itself, and, of the first ones, one behind it.
			found(t, b.f, 1840+at, 1, 0, 0)
			found(t, b.f, 1840+at, 3, 1840, 40-at+alikeBytes(text[40:], text[1880:]))
		}
	}
}

func TestWordsThatComeAgain(t *testing.T) {
	text := strings.Repeat("what came before comes again, and what comes again came before; ", 30)
	b := twice(text)
	for at := range b.f.Len() {
		for _, depth := range []int{1, 4, 16, 64} {
			b.find(t, at, depth)
		}
		b.note(t, at)
	}
	found(t, b.f, 64, 1000, 64, len(text)-64)
}

func TestFindersGoOnByThemselves(t *testing.T) {
	text := "abcabcabcabc"
	f := finder(t, text, 0)
	g := *f
	if !g.Note(3) || !f.Note(3) || !f.Note(6) {
		t.Fatal("one is noted in the other")
	}
	found(t, &g, 9, 9, 6, 3)
	found(t, f, 9, 9, 3, 3)
	found(t, New(text), 9, 9, 0, 0)
	if !g.Note(6) || g.Note(3) || f.Note(0) {
		t.Fatal("what was noted isn't")
	}
}

func TestNothingIsKeptOfBytes(t *testing.T) {
	raw := []byte("abcabcx")
	f := New(string(raw))
	clear(raw)
	if !f.Note(0) {
		t.Fatal("not noted")
	}
	found(t, f, 3, 9, 3, 3)
}

func FuzzFind(f *testing.F) {
	f.Add("abcabcx", "\x00", 3, 9)
	f.Add("aaaaaaaa", "\x03\x00\x02\x02\x09", 4, 2)
	f.Add("abcxabcyabczabcw", "\x04\x00\x08", 12, 1)
	f.Fuzz(func(t *testing.T, text, places string, at, depth int) {
		b := twice(text)
		for _, c := range []byte(places) {
			b.note(t, int(c))
		}
		b.find(t, at, depth)
		for at := range min(len(text), 300) {
			b.find(t, at, depth)
		}
		b.note(t, at)
	})
}
