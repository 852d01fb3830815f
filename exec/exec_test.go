package exec

import (
	"math"
	"math/big"
	"slices"
	"strings"
	"testing"
	"unsafe"

	"pemmican/api"
	"pemmican/parse"
)

// A dice gives the same numbers in every run.
type dice uint64

func (d *dice) next() int {
	*d = *d*6364136223846793005 + 1442695040888963407
	return int(*d >> 33)
}

// text makes a text of n bytes, of so many letters.
func (d *dice) text(n, letters int) string {
	b := make([]byte, n)
	for i := range b {
		b[i] = byte('a' + d.next()%letters)
	}
	return string(b)
}

// list makes steps of their numbers, three by three.
func list(n ...int) []api.Seq {
	var l []api.Seq
	for s := range slices.Chunk(n, 3) {
		l = append(l, api.Seq{Lits: s[0], Match: s[1], Offset: s[2]})
	}
	return l
}

// above tells whether the sum of a's numbers is above that of b's, which are added as numbers of any length.
func above(a, b []int) bool {
	sum := new(big.Int)
	for _, n := range a {
		sum.Add(sum, big.NewInt(int64(n)))
	}
	for _, n := range b {
		sum.Sub(sum, big.NewInt(int64(n)))
	}
	return sum.Sign() > 0
}

// errorOf tells the error of steps by the chapter's words, without making a byte.
func errorOf(dict, lits string, l []api.Seq, limit int) api.Errno {
	limit = max(limit, 0)
	used, there := []int{}, []int{}
	for _, s := range l {
		used = append(used, s.Lits)
		if s.Lits < 0 || above(used, []int{len(lits)}) {
			return api.ErrForm
		}
		if there = append(there, s.Lits); above(there, []int{limit}) {
			return api.ErrLong
		}
		if s.Match < 3 || s.Offset < 1 || above([]int{s.Offset}, append(slices.Clone(there), len(dict))) {
			return api.ErrForm
		}
		if there = append(there, s.Match); above(there, []int{limit}) {
			return api.ErrLong
		}
	}
	left := []int{len(lits)}
	for _, n := range used {
		left = append(left, -n)
	}
	if above(append(there, left...), []int{limit}) {
		return api.ErrLong
	}
	return api.OK
}

// byBytes does steps byte by byte on one text, counting what comes: what Run is held against.
func byBytes(dict, lits string, l []api.Seq, limit int) (string, api.Errno) {
	made, err := "", api.OK
	put := func(c byte) {
		made += string([]byte{c})
		if len(made) > max(limit, 0) {
			err = api.ErrLong
		}
	}
	for _, s := range l {
		if s.Lits < 0 || s.Lits > len(lits) {
			return "", api.ErrForm
		}
		for i := 0; i < s.Lits && err == api.OK; i++ {
			put(lits[i])
		}
		if err != api.OK {
			return "", err
		}
		lits = lits[s.Lits:]
		if s.Match < 3 || s.Offset < 1 || s.Offset > len(dict)+len(made) {
			return "", api.ErrForm
		}
		for i := 0; i < s.Match && err == api.OK; i++ {
			whole := dict + made
			put(whole[len(whole)-s.Offset])
		}
		if err != api.OK {
			return "", err
		}
	}
	for i := 0; i < len(lits) && err == api.OK; i++ {
		put(lits[i])
	}
	if err != api.OK {
		return "", err
	}
	return made, api.OK
}

// held fails if Run doesn't answer what the steps make byte by byte.
func held(t *testing.T, dict, lits string, l []api.Seq, limit int) {
	t.Helper()
	want, no := byBytes(dict, lits, l, limit)
	got, err := Run(dict, lits, l, limit)
	if got != want || err != no {
		t.Fatalf("Run(%q, %q, %v, %d): %q, %d, and not %q, %d", dict, lits, l, limit, got, err, want, no)
	}
	if again := errorOf(dict, lits, l, limit); again != no {
		t.Fatalf("%q, %q, %v, %d: error %d by bytes, %d by numbers", dict, lits, l, limit, no, again)
	}
	if err != api.OK {
		return
	}
	if n := Size(lits, l); n != len(got) {
		t.Fatalf("Size(%q, %v): %d, and not %d", lits, l, n, len(got))
	}
	if !parse.Right(dict, got, l) || parse.Literals(got, l) != lits {
		t.Fatalf("Run(%q, %q, %v, %d): %q isn't made by the steps", dict, lits, l, limit, got)
	}
}

func TestExample(t *testing.T) {
	if s, err := Run("ab", "", []api.Seq{{Lits: 0, Match: 5, Offset: 2}}, 5); s != "ababa" || err != api.OK {
		t.Error(s, err)
	}
}

// texts were worked out beside the program.
var texts = []struct {
	dict, lits string
	l          []api.Seq
	want       string
}{
	{"", "", nil, ""},
	{"", "", []api.Seq{}, ""},
	{"dict", "", nil, ""},
	{"", "a", nil, "a"},
	{"dict", "abc", nil, "abc"},
	{"ab", "", list(0, 5, 2), "ababa"},
	{"ab", "", list(0, 5, 1), "bbbbb"},
	{"ab", "x", list(0, 5, 2), "ababax"},
	{"ab", "x", list(1, 5, 2), "xbxbxb"},
	{"ab", "x", list(1, 5, 3), "xabxab"},
	{"ab", "x", list(1, 5, 1), "xxxxxx"},
	{"", "abc", list(3, 6, 3), "abcabcabc"},
	{"", "abc", list(3, 3, 1), "abcccc"},
	{"", "abc", list(3, 3, 2), "abcbcb"},
	{"", "abcd", list(3, 3, 3), "abcabcd"},
	{"", "abcd", list(2, 3, 2), "ababacd"},
	{"", "abcd", list(1, 3, 1, 1, 3, 5), "aaaabaaacd"},
	{"", "abcd", list(1, 3, 1, 0, 3, 1, 3, 4, 3), "aaaaaaabcdbcdb"},
	{"hello world", "", list(0, 11, 11), "hello world"},
	{"hello world", "", list(0, 5, 5), "world"},
	{"hello world", "", list(0, 5, 11), "hello"},
	{"hello world", "", list(0, 12, 11), "hello worldh"},
	{"hello world", ", ", list(0, 5, 5, 2, 5, 18), "world, hello"},
	{"hello world", ", !", list(0, 5, 5, 2, 5, 18), "world, hello!"},
	// The dictionary's end and the text's beginning in one match.
	{"abc", "de", list(2, 4, 4), "debcde"},
	{"abc", "de", list(2, 9, 5), "deabcdeabcd"},
	{"a", "", list(0, 3, 1, 0, 3, 4), "aaaaaa"},
	// Any bytes.
	{"\x00\xff", "\x80", list(1, 3, 3, 0, 3, 6), "\x80\x00\xff\x80\x00\xff\x80"},
	{"\x00", "\x00", list(0, 3, 1), "\x00\x00\x00\x00"},
	{"é", "", list(0, 3, 2), "\xc3\xa9\xc3"},
}

func TestRunWorkedOut(t *testing.T) {
	for i, c := range texts {
		for _, limit := range []int{len(c.want), len(c.want) + 1, 1000, 1 << 40, math.MaxInt} {
			if s, err := Run(c.dict, c.lits, c.l, limit); s != c.want || err != api.OK {
				t.Errorf("%d: Run(%q, %q, %v, %d): %q, %d, and not %q", i, c.dict, c.lits, c.l, limit, s, err, c.want)
			}
		}
		for limit := range len(c.want) {
			if s, err := Run(c.dict, c.lits, c.l, limit); s != "" || err != api.ErrLong {
				t.Errorf("%d: Run(%q, %q, %v, %d): %q, %d", i, c.dict, c.lits, c.l, limit, s, err)
			}
		}
		if n := Size(c.lits, c.l); n != len(c.want) {
			t.Errorf("%d: Size(%q, %v): %d, and not %d", i, c.lits, c.l, n, len(c.want))
		}
	}
}

func TestLimitsBelow0(t *testing.T) {
	for _, limit := range []int{0, -1, -600, math.MinInt + 1, math.MinInt} {
		for _, c := range []struct {
			dict, lits string
			l          []api.Seq
			want       api.Errno
		}{
			{"", "", nil, api.OK},
			{"dict", "", nil, api.OK},
			{"", "a", nil, api.ErrLong},
			{"", "a", list(1, 2, 0), api.ErrLong},
			{"", "", list(0, 3, 1), api.ErrForm},
			{"a", "", list(0, 3, 1), api.ErrLong},
			{"a", "b", list(0, 2, 1), api.ErrForm},
			{"a", "b", list(2, 3, 1), api.ErrForm},
		} {
			if s, err := Run(c.dict, c.lits, c.l, limit); s != "" || err != c.want {
				t.Errorf("Run(%q, %q, %v, %d): %q, %d, and not %d", c.dict, c.lits, c.l, limit, s, err, c.want)
			}
		}
	}
}

// refused are steps of the dictionary ab and the literals xyz, and the first error of theirs.
var refused = []struct {
	l     []api.Seq
	limit int
	want  api.Errno
}{
	// Literals that there are not.
	{list(-1, 3, 1), 100, api.ErrForm},
	{list(4, 3, 1), 100, api.ErrForm},
	{list(3, 3, 1, 1, 3, 1), 100, api.ErrForm},
	{list(2, 3, 1, 2, 3, 1), 100, api.ErrForm},
	{list(2, 3, 1, -1, 3, 1), 100, api.ErrForm},
	// Matches that may not be.
	{list(0, 2, 1), 100, api.ErrForm},
	{list(0, 0, 1), 100, api.ErrForm},
	{list(0, -1, 1), 100, api.ErrForm},
	{list(0, -3, 1), 100, api.ErrForm},
	{list(0, 3, 0), 100, api.ErrForm},
	{list(0, 3, -1), 100, api.ErrForm},
	{list(0, 3, 3), 100, api.ErrForm},
	{list(1, 3, 4), 100, api.ErrForm},
	{list(3, 3, 6), 100, api.ErrForm},
	{list(1, 3, 3, 0, 3, 7), 100, api.ErrForm},
	{list(1, 3, 3, 1, 2, 1), 100, api.ErrForm},
	{list(1, 3, 3, 2, 3, 9), 100, api.ErrForm},
	// More bytes than the limit: literals, a match, literals at the end.
	{list(3, 3, 1), 2, api.ErrLong},
	{list(3, 3, 1), 5, api.ErrLong},
	{list(1, 3, 1), 5, api.ErrLong},
	{list(0, 3, 1, 2, 3, 1), 4, api.ErrLong},
	{list(0, 3, 1, 2, 3, 1), 7, api.ErrLong},
	{list(0, 3, 1, 2, 3, 1), 8, api.ErrLong},
	{nil, 2, api.ErrLong},
	// Of several errors the first one.
	{list(4, 3, 1), 0, api.ErrForm},
	{list(4, 200, 1), 100, api.ErrForm},
	{list(3, 2, 1), 2, api.ErrLong},
	{list(3, 3, 0), 2, api.ErrLong},
	{list(3, 3, 6), 2, api.ErrLong},
	{list(3, 2, 1), 3, api.ErrForm},
	{list(3, 3, 6), 3, api.ErrForm},
	{list(0, 3, 3), 0, api.ErrForm},
	{list(0, 2, 2), 0, api.ErrForm},
	{list(0, 2, 2), 1, api.ErrForm},
	{list(0, 101, 3), 100, api.ErrForm},
	{list(0, 101, 2, -1, 3, 1), 100, api.ErrLong},
	{list(0, 101, 2, 0, 0, 0), 100, api.ErrLong},
	{list(3, 3, 1, 0, 2, 1), 5, api.ErrLong},
	{list(3, 3, 1, 0, 2, 1), 6, api.ErrForm},
	{list(0, 3, 1, 0, 2, 1), 3, api.ErrForm},
	{list(0, 3, 1, 4, 3, 1), 3, api.ErrForm},
	{list(0, 2, 1, 4, 300, 1), 3, api.ErrForm},
	{list(0, 3, 9, 0, 300, 1), 100, api.ErrForm},
}

func TestErrorsWorkedOut(t *testing.T) {
	for i, c := range refused {
		if s, err := Run("ab", "xyz", c.l, c.limit); s != "" || err != c.want {
			t.Errorf("%d: Run of %v, %d: %q, %d, and not %d", i, c.l, c.limit, s, err, c.want)
		}
		held(t, "ab", "xyz", c.l, c.limit)
	}
}

// The steps' numbers at their edges, each with all others, one step and two of them.
func TestEachShortList(t *testing.T) {
	var all []api.Seq
	for lits := -1; lits <= 3; lits++ {
		for match := 1; match <= 5; match++ {
			for offset := -1; offset <= 6; offset++ {
				all = append(all, api.Seq{Lits: lits, Match: match, Offset: offset})
			}
		}
	}
	for _, c := range []struct{ dict, lits string }{{"", ""}, {"ab", ""}, {"", "xy"}, {"abc", "xyz"}} {
		for limit := -1; limit <= 9; limit++ {
			held(t, c.dict, c.lits, nil, limit)
			for _, s := range all {
				held(t, c.dict, c.lits, []api.Seq{s}, limit)
			}
		}
	}
	for _, s := range all {
		for _, u := range all {
			for _, limit := range []int{3, 7, 8, 20} {
				held(t, "a", "xyz", []api.Seq{s, u}, limit)
			}
		}
	}
}

func TestAnySteps(t *testing.T) {
	d := dice(14)
	made := 0
	for range 20000 {
		dict, lits := d.text(d.next()%12, 26), d.text(d.next()%30, 26)
		l := make([]api.Seq, d.next()%8)
		there := len(dict)
		for i := range l {
			l[i] = api.Seq{Lits: d.next() % 6, Match: 3 + d.next()%12}
			l[i].Offset = 1 + d.next()%max(there+l[i].Lits, 1)
			there += l[i].Lits + l[i].Match
		}
		if len(l) > 0 && d.next()%3 == 0 {
			s := &l[d.next()%len(l)]
			*[]*int{&s.Lits, &s.Match, &s.Offset}[d.next()%3] = d.next()%200 - 20
		}
		limit := Size(lits, l) + d.next()%7 - 3
		held(t, dict, lits, l, limit)
		if _, err := Run(dict, lits, l, limit); err == api.OK {
			made++
		}
	}
	if made < 2000 {
		t.Errorf("only %d of these lists make a text", made)
	}
}

// What parse makes of a text is brought back to it.
func TestStepsOfTexts(t *testing.T) {
	d := dice(15)
	for i := range 600 {
		letters := []int{1, 2, 3, 5, 200}[i%5]
		dict, text := d.text(d.next()%257, letters), d.text(d.next()%513, letters)
		for level := 0; level <= 3; level++ {
			l := parse.Steps(dict, text, level)
			lits := parse.Literals(text, l)
			if s, err := Run(dict, lits, l, len(text)); s != text || err != api.OK {
				t.Fatalf("Run(%q, %q, %v): %q, %d, and not %q", dict, lits, l, s, err, text)
			}
			if s, err := Run(dict, lits, l, len(text)-1); len(text) > 0 && (s != "" || err != api.ErrLong) {
				t.Fatalf("Run(%q, %q, %v): %q, %d, at a byte less", dict, lits, l, s, err)
			}
			if n := Size(lits, l); n != len(text) {
				t.Fatalf("Size(%q, %v): %d, and not %d", lits, l, n, len(text))
			}
		}
	}
}

// Neither the dictionary, nor the literals, nor the steps have a bound but the limit.
func TestLongTexts(t *testing.T) {
	long := strings.Repeat("abcdefghij", 50000)
	half := strings.Repeat("x", len(long))
	many := slices.Repeat(list(1, 3, 1), len(half))
	for i, c := range []struct {
		dict, lits string
		l          []api.Seq
		want       string
	}{
		{"", "abcdefghij", list(10, len(long)-10, 10), long},
		{long, "", list(0, len(long), len(long)), long},
		{"z" + long, "", list(0, 3, len(long)+1), "zab"},
		{"z" + long, half, list(len(half), 3, 2*len(long)+1), half + "zab"},
		{"", long, nil, long},
		{"", half, many, strings.Repeat(half, 4)},
		{"a", "", list(0, 1<<22, 1), strings.Repeat("a", 1<<22)},
	} {
		if s, err := Run(c.dict, c.lits, c.l, len(c.want)); s != c.want || err != api.OK {
			t.Errorf("%d: %d bytes, %d", i, len(s), err)
		}
		if s, err := Run(c.dict, c.lits, c.l, len(c.want)-1); s != "" || err != api.ErrLong {
			t.Errorf("%d: %d bytes, %d, at a byte less", i, len(s), err)
		}
		if n := Size(c.lits, c.l); n != len(c.want) {
			t.Errorf("%d: Size %d, and not %d", i, n, len(c.want))
		}
	}
}

// farNumbers go round, if they are added without care.
var farNumbers = []int{
	math.MinInt, math.MinInt + 1, math.MinInt + 3, math.MinInt32, -1 << 40, -7, -1, 0, 1, 3, 7,
	math.MaxInt32, 1 << 32, 1<<32 + 3, 1 << 40, 1 << 62, math.MaxInt - 7, math.MaxInt - 3, math.MaxInt - 1, math.MaxInt,
}

// A match of any length makes nothing yet, if an error comes behind it.
func TestFarNumbers(t *testing.T) {
	wrong := api.Seq{Lits: -1}
	right := api.Seq{Lits: 1, Match: 3, Offset: 1}
	for _, a := range farNumbers {
		for _, b := range farNumbers {
			for _, c := range farNumbers {
				far := api.Seq{Lits: a, Match: b, Offset: c}
				for _, limit := range []int{0, 7, 1 << 31, 1 << 40, math.MaxInt - 3, math.MaxInt} {
					for _, l := range [][]api.Seq{{far, wrong}, {right, far, wrong}, {far, far, wrong}, {far, right, far, wrong}} {
						want := errorOf("ab", "xyz", l, limit)
						if s, err := Run("ab", "xyz", l, limit); s != "" || err != want {
							t.Fatalf("Run of %v, %d: %q, %d, and not %d", l, limit, s, err, want)
						}
					}
				}
			}
		}
	}
}

func TestFarOffsetsBehindFarMatches(t *testing.T) {
	for i, c := range []struct {
		match, offset, limit int
		want                 api.Errno
	}{
		{1 << 40, 1<<40 + 2, 1 << 41, api.ErrLong},
		{1 << 40, 1<<40 + 3, 1 << 41, api.ErrForm},
		{math.MaxInt - 4, math.MaxInt - 2, math.MaxInt, api.ErrLong},
		{math.MaxInt - 4, math.MaxInt - 1, math.MaxInt, api.ErrForm},
		{math.MaxInt - 2, math.MaxInt, math.MaxInt, api.ErrLong},
		{math.MaxInt - 3, math.MaxInt, math.MaxInt, api.ErrForm},
		{math.MaxInt, math.MaxInt, math.MaxInt, api.ErrLong},
	} {
		l := list(0, c.match, 2, 0, 1<<41, c.offset)
		if s, err := Run("ab", "", l, c.limit); s != "" || err != c.want || errorOf("ab", "", l, c.limit) != c.want {
			t.Errorf("%d: Run of %v, %d: %q, %d, and not %d", i, l, c.limit, s, err, c.want)
		}
	}
}

// Of texts beyond what is promised no memory is asked for.
func TestTextsBeyondAllBounds(t *testing.T) {
	for _, match := range []int{1 << 31, 1 << 32, 1 << 40, 1 << 62, math.MaxInt - 1, math.MaxInt} {
		for _, l := range [][]api.Seq{list(0, match, 2), list(0, match-3, 2, 0, 3, 1)} {
			if s, err := Run("ab", "", l, math.MaxInt); s != "" || err != api.ErrLong {
				t.Errorf("Run of %v: %d bytes, %d", l, len(s), err)
			}
		}
	}
	if s, err := Run("ab", "xyz", list(0, 1<<31-3, 2), math.MaxInt); s != "" || err != api.ErrLong {
		t.Errorf("with literals behind: %d bytes, %d", len(s), err)
	}
}

func TestSizeWorkedOut(t *testing.T) {
	const most = 1 << 40
	for i, c := range []struct {
		lits string
		l    []api.Seq
		want int
	}{
		{"", nil, 0},
		{"", []api.Seq{}, 0},
		{"abc", nil, 3},
		{"abc", list(0, 0, 0), 3},
		{"", list(0, 5, 2), 5},
		{"abc", list(0, 5, 2), 8},
		// It is told of steps that make no text, too.
		{"", list(0, 1, 0), 1},
		{"", list(0, 2, -1, 0, 1, 9), 3},
		{"a", list(7, 3, 1), 4},
		{"a", list(-7, 3, 1), 4},
		{"a", list(math.MinInt, 3, math.MinInt, math.MaxInt, 4, math.MaxInt), 8},
		// Those below 0 count as 0.
		{"", list(0, -1, 1), 0},
		{"ab", list(0, -1, 1), 2},
		{"ab", list(0, 5, 1, 0, -3, 1), 7},
		{"ab", list(0, -3, 1, 0, 5, 1), 7},
		{"ab", list(0, math.MinInt, 1, 0, math.MinInt, 1, 0, 4, 1), 6},
		{"", list(0, most, 1, 0, -1, 1), most},
		{"", list(0, -most, 1, 0, most-1, 1), most - 1},
		// It is at most 2^40.
		{"", list(0, most-1, 1), most - 1},
		{"", list(0, most, 1), most},
		{"", list(0, most+1, 1), most},
		{"a", list(0, most-2, 1), most - 1},
		{"a", list(0, most-1, 1), most},
		{"ab", list(0, most-1, 1), most},
		{"", list(0, most-3, 1, 0, 2, 1), most - 1},
		{"", list(0, most-3, 1, 0, 3, 1), most},
		{"", list(0, most-3, 1, 0, 4, 1), most},
		{"", list(0, most, 1, 0, most, 1), most},
		{"", list(0, 1<<62, 1, 0, 1<<62, 1), most},
		{"", list(0, 1<<62, 1, 0, 1<<62, 1, 0, 1<<62, 1, 0, 1<<62, 1, 0, 3, 1), most},
		{"", list(0, math.MaxInt, 1), most},
		{"", list(0, math.MaxInt, 1, 0, math.MaxInt, 1, 0, 2, 1), most},
		{"abc", list(0, math.MaxInt, 1), most},
		{"abc", list(0, 7, 1, 0, math.MaxInt, 1, 0, math.MinInt, 1), most},
	} {
		if n := Size(c.lits, c.l); n != c.want {
			t.Errorf("%d: Size(%q, %v): %d, and not %d", i, c.lits, c.l, n, c.want)
		}
	}
}

func TestSizeOfAnySteps(t *testing.T) {
	d := dice(16)
	for range 5000 {
		lits := d.text(d.next()%40, 26)
		l := make([]api.Seq, d.next()%10)
		sum := big.NewInt(int64(len(lits)))
		for i := range l {
			n := d.next() << 32 >> (d.next() % 64)
			if d.next()%3 == 0 {
				n = -n
			}
			l[i] = api.Seq{Lits: d.next() - 1<<20, Match: n, Offset: d.next() - 1<<20}
			sum.Add(sum, big.NewInt(int64(max(n, 0))))
		}
		want := 1 << 40
		if sum.Cmp(big.NewInt(int64(want))) < 0 {
			want = int(sum.Int64())
		}
		if n := Size(lits, l); n != want {
			t.Fatalf("Size(%q, %v): %d, and not %d", lits, l, n, want)
		}
	}
}

func TestNothingIsChangedOrKept(t *testing.T) {
	l := list(1, 3, 3, 1, 4, 2)
	same := slices.Clone(l)
	for _, limit := range []int{2, 5, 9, 10, 100} {
		first, err := Run("ab", "xyz", l, limit)
		Size("xyz", l)
		Run("other", "xy", list(2, 9, 5, 0, 2, 1), 100)
		if again, no := Run("ab", "xyz", l, limit); again != first || no != err || !slices.Equal(l, same) {
			t.Errorf("limit %d: %q, %d, then %q, %d; steps %v", limit, first, err, again, no, l)
		}
	}
	s, _ := Run("ab", "xyz", l, 100)
	clear(l)
	if want := "xabxyxyxyz"; s != want {
		t.Errorf("%q, and not %q", s, want)
	}
}

func TestTheTextIsNewMemory(t *testing.T) {
	dict, lits := strings.Repeat("abc", 20), strings.Repeat("xyz", 20)
	for _, l := range [][]api.Seq{nil, list(0, 60, 60), list(60, 3, 60), list(60, 60, 60)} {
		s, err := Run(dict, lits, l, 1000)
		if err != api.OK || shares(s, dict) || shares(s, lits) {
			t.Errorf("%v: %q, %d", l, s, err)
		}
		again, _ := Run(dict, lits, l, 1000)
		if shares(s, again) {
			t.Errorf("%v: two answers share their bytes", l)
		}
	}
}

// shares tells whether two texts have a byte in common.
func shares(a, b string) bool {
	at, of := uintptr(unsafe.Pointer(unsafe.StringData(a))), uintptr(unsafe.Pointer(unsafe.StringData(b)))
	return at < of+uintptr(len(b)) && of < at+uintptr(len(a))
}
