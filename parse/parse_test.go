package parse

import (
	"math"
	"slices"
	"strings"
	"testing"
	"unsafe"

	"pemmican/api"
)

// A dice gives the same numbers in every run.
type dice uint64

func (d *dice) next() int {
	*d = *d*6364136223846793005 + 1442695040888963407
	return int(*d >> 33)
}

// text makes a text of n bytes, of so many letters.
func (d *dice) text(n, letters int) string {
	b := make([]byte, n)
	for i := range b {
		b[i] = byte('a' + d.next()%letters)
	}
	return string(b)
}

// words makes a text of n bytes at most, of words that come again.
func (d *dice) words(n int) string {
	list := []string{"key=", "value;", "name=", "of ", "the ", "\x00\x00\x00\x01", "\xff\xfe", "4711", "q", "\n"}
	var b strings.Builder
	for b.Len() < n {
		b.WriteString(list[d.next()%len(list)])
	}
	return b.String()[:n]
}

// eachText goes through all texts of n of the letters.
func eachText(n int, letters string, do func(string)) {
	if n == 0 {
		do("")
		return
	}
	eachText(n-1, letters, func(s string) {
		for _, c := range []byte(letters) {
			do(s + string(c))
		}
	})
}

// made does steps byte by byte, as a reader of them would; false if they make no text.
func made(dict, lits string, l []api.Seq) (string, bool) {
	b := []byte(dict)
	for _, s := range l {
		if s.Lits < 0 || s.Lits > len(lits) {
			return "", false
		}
		b = append(b, lits[:s.Lits]...)
		lits = lits[s.Lits:]
		if s.Match < 3 || s.Offset < 1 || s.Offset > len(b) {
			return "", false
		}
		for range s.Match {
			b = append(b, b[len(b)-s.Offset])
		}
	}
	return string(append(b, lits...))[len(dict):], true
}

// rightByBytes goes through text byte by byte: what Right is held against.
func rightByBytes(dict, text string, l []api.Seq) bool {
	at := 0
	for _, s := range l {
		if s.Lits < 0 || s.Match < 3 || s.Offset < 1 {
			return false
		}
		for range s.Lits {
			if at++; at > len(text) {
				return false
			}
		}
		for range s.Match {
			from := at - s.Offset
			if at >= len(text) || from < -len(dict) {
				return false
			}
			c := byte(0)
			if from < 0 {
				c = dict[len(dict)+from]
			} else {
				c = text[from]
			}
			if c != text[at] {
				return false
			}
			at++
		}
	}
	return true
}

// literal tells which bytes of the text stand in no match.
func literal(text string, l []api.Seq) string {
	copied := make([]bool, len(text))
	at := 0
	for _, s := range l {
		at += s.Lits
		for range s.Match {
			copied[at] = true
			at++
		}
	}
	var b []byte
	for i := range len(text) {
		if !copied[i] {
			b = append(b, text[i])
		}
	}
	return string(b)
}

// list answers steps: of each of them its literals, its match, and its offset.
func list(n ...int) []api.Seq {
	l := make([]api.Seq, 0, len(n)/3)
	for ; len(n) >= 3; n = n[3:] {
		l = append(l, api.Seq{Lits: n[0], Match: n[1], Offset: n[2]})
	}
	return l
}

// sound looks through what Steps answers of them.
func sound(t *testing.T, dict, text string, level int) []api.Seq {
	t.Helper()
	l := Steps(dict, text, level)
	near := dict[max(0, len(dict)-600):]
	first := text[:min(len(text), 600)]
	if level <= 0 && len(l) != 0 {
		t.Fatalf("Steps(%q, %q, %d): %v, and not none", dict, text, level, l)
	}
	if !rightByBytes(near, first, l) || !Right(near, first, l) || !Right(dict, text, l) {
		t.Fatalf("Steps(%q, %q, %d): %v don't make it", dict, text, level, l)
	}
	lits := Literals(first, l)
	if back, ok := made(near, lits, l); !ok || back != first || lits != literal(first, l) {
		t.Fatalf("Steps(%q, %q, %d): %v, with the literals %q, make %q, %v", dict, text, level, l, lits, back, ok)
	}
	return l
}

func TestExample(t *testing.T) {
	if l := Steps("", "abcabcabc", 1); !slices.Equal(l, []api.Seq{{Lits: 3, Match: 6, Offset: 3}}) {
		t.Error(l)
	}
}

// stepped were worked out beside the program.
var stepped = []struct {
	dict, text string
	level      int
	want       []api.Seq
}{
	{"", "", 3, nil},
	{"", "ab", 3, nil},
	{"", "abc", 3, nil},
	{"", "abcab", 3, nil},
	{"", "abcabc", 1, list(3, 3, 3)},
	{"", "aaaaaaaaaa", 1, list(1, 9, 1)},
	{"", "aaaa", 1, list(1, 3, 1)},
	{"", "aaa", 1, nil},
	{"", "ababab", 2, list(2, 4, 2)},
	{"", "xabcyabcz", 2, list(5, 3, 4)},
	{"", "abcxabcyabcx", 2, list(4, 3, 4, 1, 4, 8)},
	{"", "abcdabcdxabcdx", 3, list(4, 4, 4, 1, 5, 5)},
	// A longer match that begins a byte later goes ahead.
	{"", "abcxbcdefyabcdef", 3, list(11, 5, 7)},
	{"", "abcxbcdyabcd", 3, list(8, 3, 8)},
	// Bytes ahead of the text.
	{"abc", "abc", 1, list(0, 3, 3)},
	{"abcdef", "def", 1, list(0, 3, 3)},
	{"abcdef", "xdefabcd", 1, list(1, 3, 4, 0, 4, 10)},
	{"ab", "abab", 1, list(0, 4, 2)},
	{"a", "aaa", 1, list(0, 3, 1)},
	{"a", "aa", 3, nil},
	{"abc", "", 3, nil},
	{"abc", "ab", 3, nil},
	// A match that begins in those ahead, and goes on into the text.
	{"xyzab", "cdeabcd", 1, list(3, 4, 5)},
	{"\x00\xff\x80", "\x00\xff\x80\x00", 1, list(0, 4, 3)},
	// The places within a match count, too.
	{"", "abcXabcYZcYZ", 1, list(4, 3, 4, 2, 3, 3)},
	{"", "abcdXabcdYbcdZ", 1, list(5, 4, 5, 1, 3, 4)},
	{"xyzlongerxyz0xyz1xyz2mno", "mnoxyzlonger", 1, list(0, 3, 3, 0, 9, 27)},
	// No level.
	{"", "abcabcabc", 0, nil},
	{"", "abcabcabc", -1, nil},
	{"abc", "abcabcabc", math.MinInt, nil},
	// Levels above the greatest.
	{"", "abcabcabc", 4, list(3, 6, 3)},
	{"", "abcabcabc", math.MaxInt, list(3, 6, 3)},
}

func TestStepsWorkedOut(t *testing.T) {
	for i, c := range stepped {
		if l := sound(t, c.dict, c.text, c.level); !slices.Equal(l, c.want) {
			t.Errorf("%d: Steps(%q, %q, %d): %v, and not %v", i, c.dict, c.text, c.level, l, c.want)
		}
	}
}

func TestDepth(t *testing.T) {
	for i, c := range []struct{ level, want int }{
		{0, 0}, {1, 4}, {2, 16}, {3, 64}, {4, 64}, {5, 64}, {31, 64}, {32, 64}, {64, 64}, {1 << 40, 64}, {math.MaxInt, 64},
		{-1, 0}, {-2, 0}, {-64, 0}, {math.MinInt, 0}, {math.MinInt + 1, 0}, {api.MaxLevel, 64},
	} {
		if n := Depth(c.level); n != c.want {
			t.Errorf("%d: Depth(%d): %d, and not %d", i, c.level, n, c.want)
		}
	}
}

// A match that so many others of its three bytes stand in front of is found at levels that look at as many places.
func TestSoManyPlacesAreLookedAt(t *testing.T) {
	for _, between := range []int{0, 1, 2, 3, 4, 5, 14, 15, 16, 17, 62, 63, 64, 65} {
		var b strings.Builder
		b.WriteString("xyzlonger")
		for i := range between {
			b.WriteString("xyz" + string(rune(i)))
		}
		for level := 1; level <= 3; level++ {
			l := sound(t, b.String(), "xyzlonger", level)
			whole := slices.Equal(l, []api.Seq{{Lits: 0, Match: 9, Offset: b.Len()}})
			if whole != (between < Depth(level)) {
				t.Errorf("%d between, level %d: %v", between, level, l)
			}
		}
	}
}

func TestEachShortText(t *testing.T) {
	for ahead := range 5 {
		for n := range 8 {
			eachText(ahead, "ab", func(dict string) {
				eachText(n, "ab", func(text string) {
					for level := -1; level <= 4; level++ {
						sound(t, dict, text, level)
					}
				})
			})
		}
	}
	for n := range 9 {
		eachText(n, "abc", func(text string) {
			sound(t, "", text, 1)
			sound(t, "cab", text, 2)
		})
	}
}

func TestAnyTexts(t *testing.T) {
	d := dice(12)
	for i := range 1500 {
		letters := []int{1, 2, 3, 5, 20, 150}[i%6]
		dict, text := d.text(d.next()%80, letters), d.text(d.next()%120, letters)
		if i%3 == 0 {
			dict, text = d.words(d.next()%300), d.words(d.next()%300)
		}
		for level := -1; level <= 5; level++ {
			sound(t, dict, text, level)
		}
	}
}

func TestLongTexts(t *testing.T) {
	d := dice(13)
	lengths := []int{0, 1, 2, 3, 4, 255, 256, 257, 512, 597, 598, 599, 600, 601, 602, 603, 604, 1199, 1200, 1201, 1999, 2000, 2001, 3000}
	for i, ahead := range lengths {
		for _, n := range lengths {
			level := i%3 + 1
			sound(t, d.words(ahead), d.words(n), level)
			sound(t, strings.Repeat("a", ahead), strings.Repeat("a", n), level)
			sound(t, d.text(ahead, 4), d.text(n, 4), level)
		}
	}
}

// Of a text its first 600 bytes are made, and no others change what is answered.
func TestTheFirst600Bytes(t *testing.T) {
	d := dice(14)
	for _, text := range []string{strings.Repeat("a", 600), strings.Repeat("abc", 200), d.words(600), d.text(600, 3)} {
		for level := 1; level <= 3; level++ {
			want := sound(t, "abc", text, level)
			for _, more := range []string{"a", "abc", text, text + text + text} {
				if l := Steps("abc", text+more, level); !slices.Equal(l, want) {
					t.Errorf("%q with %q behind: %v, and not %v", text, more, l, want)
				}
			}
		}
	}
	if l := Steps("", strings.Repeat("a", 5000), 1); !slices.Equal(l, []api.Seq{{Lits: 1, Match: 599, Offset: 1}}) {
		t.Error(l)
	}
	if l := Steps("a", strings.Repeat("a", 600), 1); !slices.Equal(l, []api.Seq{{Lits: 0, Match: 600, Offset: 1}}) {
		t.Error(l)
	}
}

// Of those ahead the last 600 bytes count, and no others change what is answered.
func TestTheLast600BytesAhead(t *testing.T) {
	d := dice(15)
	for _, dict := range []string{strings.Repeat("a", 600), strings.Repeat("abc", 200), d.words(600), d.text(600, 3)} {
		text := d.words(200) + dict[100:250]
		for level := 1; level <= 3; level++ {
			want := sound(t, dict, text, level)
			for _, more := range []string{"a", text, dict, text + text + text + text} {
				if l := Steps(more+dict, text, level); !slices.Equal(l, want) {
					t.Errorf("%q behind %q: %v, and not %v", dict, more, l, want)
				}
			}
		}
	}
	far := "needle"
	for _, c := range []struct {
		behind int
		want   []api.Seq
	}{
		{594, list(0, 6, 600)},
		{595, list(1, 5, 601)},
		{596, list(2, 4, 602)},
		{597, list(3, 3, 603)},
		{598, nil},
		{600, nil},
		{10, list(0, 6, 16)},
	} {
		fill := make([]byte, c.behind)
		for i := range fill {
			fill[i] = byte(i%3*50 + i/3%50 + 1)
		}
		dict := far + strings.NewReplacer("n", "N", "e", "E", "d", "D", "l", "L").Replace(string(fill))
		if l := sound(t, dict, far, 3); !slices.Equal(l, c.want) {
			t.Errorf("%d behind: %v, and not %v", c.behind, l, c.want)
		}
	}
}

// Of a text of 3 up to 200 bytes, with itself ahead, there is a match.
func TestATextWithItselfAhead(t *testing.T) {
	d := dice(16)
	has := func(text string) {
		t.Helper()
		for _, level := range []int{1, 2, 3, 4, math.MaxInt} {
			if len(sound(t, text, text, level)) == 0 {
				t.Fatalf("%q with itself ahead, level %d: no match", text, level)
			}
		}
	}
	for n := 3; n <= 200; n++ {
		has(strings.Repeat("a", n))
		has(strings.Repeat("ab", n)[:n])
		has(d.words(n))
		for _, letters := range []int{2, 3, 10, 150} {
			has(d.text(n, letters))
		}
		all := make([]byte, n)
		for i := range all {
			all[i] = byte(i)
		}
		has(string(all))
	}
	for n := 3; n <= 7; n++ {
		eachText(n, "ab", has)
	}
	for n := 3; n <= 5; n++ {
		eachText(n, "abc", has)
	}
}

func TestLevels(t *testing.T) {
	d := dice(17)
	for i := range 60 {
		dict, text := d.text(i*3, 3), d.text(i*7, 3)
		want := Steps(dict, text, 3)
		for _, level := range []int{4, 5, 60, 64, 1 << 40, math.MaxInt} {
			if l := Steps(dict, text, level); !slices.Equal(l, want) {
				t.Fatalf("level %d: %v, and not %v", level, l, want)
			}
		}
		for _, level := range []int{0, -1, -2, -64, math.MinInt} {
			if l := Steps(dict, text, level); len(l) != 0 {
				t.Fatalf("level %d: %v", level, l)
			}
		}
	}
}

// rights were worked out beside the program.
var rights = []struct {
	dict, text string
	l          []api.Seq
	want       bool
}{
	{"", "", nil, true},
	{"", "", []api.Seq{}, true},
	{"", "abc", nil, true},
	{"abc", "xyz", nil, true},
	{"", "abcabcabc", list(3, 6, 3), true},
	{"", "abcabcabc", list(3, 3, 3, 0, 3, 3), true},
	{"", "abcabcabc", list(3, 3, 3, 0, 3, 6), true},
	{"", "abcabcabc", list(3, 5, 3), true},
	{"", "abcabcabc", list(3, 4, 3), true},
	{"", "abcabcabc", list(4, 5, 3), true},
	{"", "abcabcabc", list(6, 3, 6), true},
	// Other bytes than the text has.
	{"", "abcabcabc", list(3, 6, 2), false},
	{"", "abcabcabc", list(3, 3, 1), false},
	{"", "abcabcabd", list(3, 6, 3), false},
	{"", "abcabcabd", list(3, 5, 3), true},
	{"", "abcabdabc", list(3, 3, 3), false},
	{"", "abcxbcabc", list(3, 3, 3), false},
	{"", "abcabcxabc", list(3, 3, 3, 1, 3, 3), false},
	{"", "abcabcxabc", list(3, 3, 3, 1, 3, 4), true},
	{"", "abcabcxabc", list(3, 3, 3, 1, 3, 7), true},
	// Beyond the text's end.
	{"", "abcabcabc", list(3, 7, 3), false},
	{"", "abcabc", list(3, 4, 3), false},
	{"", "abcabc", list(4, 3, 3), false},
	{"", "abcabc", list(7, 3, 3), false},
	{"", "abcabc", list(6, 3, 3), false},
	{"", "abcabc", list(3, 3, 3, 0, 3, 3), false},
	{"", "abcabc", list(3, 3, 3, 1, 3, 3), false},
	{"", "", list(0, 3, 1), false},
	{"aaa", "", list(0, 3, 1), false},
	{"aaa", "aa", list(0, 3, 1), false},
	{"", "", list(0, 0, 0), false},
	{"", "abc", list(0, 0, 0), false},
	{"", "abc", list(3, 0, 0), false},
	{"", "abc", list(4, 0, 0), false},
	// Matches of less than 3 bytes.
	{"", "ababab", list(2, 2, 2), false},
	{"", "ababab", list(2, 1, 2), false},
	{"", "ababab", list(2, 0, 2), false},
	{"", "ababab", list(2, -1, 2), false},
	{"", "ababab", list(2, -3, 2), false},
	{"", "ababab", list(2, 3, 2), true},
	// Literals below 0.
	{"", "aaaaaaaa", list(-1, 3, 1), false},
	{"aaa", "aaaaaaaa", list(-1, 3, 1), false},
	{"", "aaaaaaaa", list(1, 3, 1, -1, 3, 1), false},
	{"", "aaaaaaaa", list(1, 3, 1, 0, 3, 1), true},
	{"", "aaaaaaaa", list(4, 3, 1, -3, 3, 1), false},
	// Offsets: 1 at least, and none beyond the first byte ahead.
	{"", "aaaaaa", list(3, 3, 0), false},
	{"", "aaaaaa", list(3, 3, -1), false},
	{"", "aaaaaa", list(3, 3, 1), true},
	{"", "aaaaaa", list(3, 3, 3), true},
	{"", "aaaaaa", list(3, 3, 4), false},
	{"a", "aaaaaa", list(3, 3, 4), true},
	{"a", "aaaaaa", list(3, 3, 5), false},
	{"aa", "aaaaaa", list(3, 3, 5), true},
	{"", "aaaaaa", list(0, 3, 1), false},
	{"a", "aaaaaa", list(0, 3, 1), true},
	{"a", "aaaaaa", list(0, 6, 1), true},
	{"a", "aaaaaa", list(0, 7, 1), false},
	{"b", "aaaaaa", list(0, 3, 1), false},
	// Of a match from those ahead into the text.
	{"ab", "cabc", list(1, 3, 3), true},
	{"ab", "cabd", list(1, 3, 3), false},
	{"xb", "cabc", list(1, 3, 3), false},
	{"abc", "abcabc", list(0, 6, 3), true},
	{"xabc", "abcabc", list(0, 6, 3), true},
	{"abc", "abcabc", list(0, 6, 4), false},
	// A wrong step behind right ones, and ahead of them.
	{"", "abcabcabcabc", list(3, 3, 3, 0, 3, 3, 0, 3, 2), false},
	{"", "abcabcabcabc", list(3, 3, 2, 0, 3, 3, 0, 3, 3), false},
	{"", "abcabcabcabc", list(3, 3, 3, 0, 3, 3, 0, 3, 3), true},
	{"", "abcabcabcabc", list(3, 3, 3, 0, 3, 3, 0, 3, 3, 0, 0, 0), false},
}

func TestRightWorkedOut(t *testing.T) {
	for i, c := range rights {
		if got := Right(c.dict, c.text, c.l); got != c.want || rightByBytes(c.dict, c.text, c.l) != c.want {
			t.Errorf("%d: Right(%q, %q, %v): %v", i, c.dict, c.text, c.l, got)
		}
	}
}

// farNumbers go round, if they are added without care.
var farNumbers = []int{math.MinInt, math.MinInt + 1, math.MinInt + 3, math.MinInt32, -600, -7, -1, 7, 600, math.MaxInt32, 1 << 32, 1<<32 + 3, math.MaxInt - 3, math.MaxInt - 1, math.MaxInt}

func TestFarNumbersAreNoSteps(t *testing.T) {
	right := api.Seq{Lits: 1, Match: 3, Offset: 1}
	for _, n := range farNumbers {
		for _, m := range append([]int{0, 1, 3}, farNumbers...) {
			steps := list(n, m, 1, m, n, 1, 1, n, m, 1, m, n, n, 3, m, m, 3, n)
			for _, s := range append(steps, list(n, n, m, n, m, n, m, n, n, n, n, n)...) {
				for _, l := range [][]api.Seq{{s}, {right, s}, {s, right}} {
					if Right("aa", "aaaaaa", l) {
						t.Fatalf("%v make the text", l)
					}
					few(t, "aaaaaa", l)
				}
			}
		}
	}
}

func TestRightOfEachStep(t *testing.T) {
	texts := []struct{ dict, text string }{{"", "abcabcab"}, {"ab", "ababaab"}, {"aaaa", "aaaaa"}, {"abcabc", "cabcab"}, {"", "aaaaaaa"}, {"xyz", ""}, {"", ""}, {"aab", "aa"}}
	var all []api.Seq
	for lits := -1; lits <= 4; lits++ {
		for match := -1; match <= 7; match++ {
			for offset := -1; offset <= 8; offset++ {
				all = append(all, api.Seq{Lits: lits, Match: match, Offset: offset})
			}
		}
	}
	held := func(dict, text string, l ...api.Seq) {
		want := rightByBytes(dict, text, l)
		if Right(dict, text, l) != want {
			t.Fatalf("Right(%q, %q, %v): %v", dict, text, l, !want)
		}
		few(t, text, l)
		if !want {
			return
		}
		if lits := Literals(text, l); lits != literal(text, l) {
			t.Fatalf("Literals(%q, %v): %q", text, l, lits)
		}
	}
	for _, c := range texts {
		for _, s := range all {
			held(c.dict, c.text, s)
			for _, next := range all {
				held(c.dict, c.text, s, next)
			}
		}
	}
}

// Steps that are right for one text are so for another if just their matches are.
func TestRightHangsOnEachByte(t *testing.T) {
	d := dice(18)
	for range 200 {
		dict, text := d.text(d.next()%20, 2), d.text(d.next()%40, 2)
		l := Steps(dict, text, 3)
		for i := range text {
			b := []byte(text)
			b[i] ^= 1
			if got := Right(dict, string(b), l); got != rightByBytes(dict, string(b), l) {
				t.Fatalf("Right(%q, %q, %v): %v", dict, b, l, got)
			}
		}
		for i := range dict {
			b := []byte(dict)
			b[i] ^= 1
			if got := Right(string(b), text, l); got != rightByBytes(string(b), text, l) {
				t.Fatalf("Right(%q, %q, %v): %v", b, text, l, got)
			}
		}
	}
}

// Right has no bound of its own, neither for those ahead nor for the text.
func TestRightOfLongTexts(t *testing.T) {
	long := strings.Repeat("abcdefghij", 20000)
	for i, c := range []struct {
		dict, text string
		l          []api.Seq
		want       bool
	}{
		{"", long, list(10, len(long)-10, 10), true},
		{"", long, list(10, len(long)-9, 10), false},
		{"", long, list(10, len(long)-10, 9), false},
		{long, "abc", list(0, 3, len(long)), true},
		{long, "abc", list(0, 3, len(long)+1), false},
		{"xyz" + long, "xyz", list(0, 3, len(long)+3), true},
		{"xyz" + long, "abcxyz", list(3, 3, len(long)+6), true},
		{"xyz" + long, "abcxyz", list(3, 3, len(long)+7), false},
		{long, long, list(len(long)-3, 3, len(long)*2-10), true},
	} {
		if got := Right(c.dict, c.text, c.l); got != c.want {
			t.Errorf("%d: %v", i, got)
		}
	}
	many := slices.Repeat(list(0, 10, 10), len(long)/10)
	if !Right("abcdefghij", long, many) || Right("abcdefghi", long, many) || Right("abcdefghij", long, append(many, api.Seq{Lits: 0, Match: 3, Offset: 10})) {
		t.Error("many")
	}
	if Literals(long, many) != "" || Literals(long+"xy", many) != "xy" {
		t.Error("their literals")
	}
}

func TestLiteralsWorkedOut(t *testing.T) {
	for i, c := range []struct {
		text string
		l    []api.Seq
		want string
	}{
		{"", nil, ""},
		{"abc", nil, "abc"},
		{"abc", []api.Seq{}, "abc"},
		{"abcabcabc", list(3, 6, 3), "abc"},
		{"abcabcabd", list(3, 5, 3), "abcd"},
		{"xabcyabcz", list(5, 3, 4), "xabcyz"},
		{"abcxabcyabcx", list(4, 3, 4, 1, 4, 8), "abcxy"},
		{"aaaaaaaaaa", list(1, 9, 1), "a"},
		// Steps with something ahead.
		{"abcabc", list(0, 6, 3), ""},
		{"abcxyz", list(0, 3, 600), "xyz"},
		{"xyzabc", list(3, 3, 9), "xyz"},
		{"1abc2def3", list(1, 3, 50, 1, 3, 1000), "123"},
		{"\x00\x00\x00\x00\xff\x80", list(0, 4, 7), "\xff\x80"},
		{strings.Repeat("z", 700) + "end", list(1, 699, 1), "zend"},
	} {
		if lits := Literals(c.text, c.l); lits != c.want {
			t.Errorf("%d: Literals(%q, %v): %q, and not %q", i, c.text, c.l, lits, c.want)
		}
	}
}

// few looks whether literals, of any steps, are bytes of the text, and no more than it has.
func few(t *testing.T, text string, l []api.Seq) {
	t.Helper()
	lits := Literals(text, l)
	if len(lits) > len(text) {
		t.Fatalf("Literals(%q, %v): %q", text, l, lits)
	}
	left := text
	for _, c := range []byte(lits) {
		i := strings.IndexByte(left, c)
		if i < 0 {
			t.Fatalf("Literals(%q, %v): %q isn't of it", text, l, lits)
		}
		left = left[i+1:]
	}
}

func TestLiteralsOfAnySteps(t *testing.T) {
	d := dice(19)
	for range 3000 {
		l := make([]api.Seq, d.next()%6)
		for i := range l {
			l[i] = api.Seq{Lits: d.next()%12 - 3, Match: d.next()%12 - 3, Offset: d.next()%12 - 3}
		}
		few(t, d.text(d.next()%20, 5), l)
	}
}

func TestNothingIsChangedOrKept(t *testing.T) {
	dict, text := "abcdef", "xabcdyabcdef"
	l := Steps(dict, text, 3)
	want := slices.Clone(l)
	if !Right(dict, text, l) || Literals(text, l) != "xy" || !slices.Equal(l, want) {
		t.Fatal(l)
	}
	clear(l)
	if again := Steps(dict, text, 3); !slices.Equal(again, want) {
		t.Fatal(again)
	}
	if lits := Literals(text, nil); lits != text || unsafe.StringData(lits) == unsafe.StringData(text) {
		t.Error("the literals are the text itself")
	}
	if lits := Literals("abcabcxyz", list(3, 3, 3)); lits != "abcxyz" {
		t.Error(lits)
	}
}

func FuzzSteps(f *testing.F) {
	f.Add("abc", "abcabcabc", 1)
	f.Add("", "aaaaaaaa", 3)
	f.Fuzz(func(t *testing.T, dict, text string, level int) {
		sound(t, dict, text, level)
		if n := len(text); n >= 3 && n <= 200 && level > 0 && len(sound(t, text, text, level)) == 0 {
			t.Fatal("no match with itself ahead")
		}
	})
}

func FuzzRight(f *testing.F) {
	f.Add("abc", "abcabcabc", []byte{3, 6, 3})
	f.Add("", "aaaaaaaa", []byte{1, 7, 1})
	f.Fuzz(func(t *testing.T, dict, text string, b []byte) {
		var l []api.Seq
		for ; len(b) >= 3; b = b[3:] {
			l = append(l, api.Seq{Lits: int(int8(b[0])), Match: int(int8(b[1])), Offset: int(int8(b[2]))})
		}
		if got := Right(dict, text, l); got != rightByBytes(dict, text, l) {
			t.Fatalf("Right(%q, %q, %v): %v", dict, text, l, got)
		}
		few(t, text, l)
	})
}
