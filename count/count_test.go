package count

import (
	"math"
	"slices"
	"testing"
)

// wrongLogs are logs that no share has.
var wrongLogs = []int{4, 10, 0, 1, -1, -5, 31, 32, 63, 64, 5 + 1<<32, math.MinInt, math.MaxInt}

// wrong are counts that may not be.
var wrong = [][]int{
	nil,
	{},
	{0},
	make([]int, 256),
	{-1},
	{-1, 2},
	{2, -1},
	{5, 0, 1<<20 + 1},
	{1<<20 + 1},
	{math.MaxInt},
	{math.MinInt},
	{math.MaxInt, math.MaxInt, 34},
	{math.MinInt, math.MinInt, 1},
	append(make([]int, 256), 1),
	append([]int{1}, make([]int, 256)...),
	repeat(1, 257),
}

// shares are counts, and their shares, worked out by hand.
var shares = []struct {
	counts []int
	log    int
	share  []int
}{
	{[]int{3, 1}, 5, []int{24, 8}},
	{[]int{3, 1}, 6, []int{48, 16}},
	{[]int{3, 1}, 9, []int{384, 128}},
	{[]int{7}, 5, []int{32}},
	{[]int{1 << 20}, 9, []int{512}},
	{[]int{0, 5, 0, 0}, 5, []int{0, 32, 0, 0}},
	{[]int{0, 3, 0, 1, 0}, 5, []int{0, 24, 0, 8, 0}},
	// too few: the first of the greatest counts has what is missing
	{[]int{1, 1, 1}, 5, []int{12, 10, 10}},
	{[]int{1, 2, 2}, 5, []int{6, 14, 12}},
	{[]int{0, 1, 1, 0, 1}, 5, []int{0, 12, 10, 0, 10}},
	// the parts are alike, the counts aren't
	{[]int{100, 101, 101}, 5, []int{10, 12, 10}},
	{[]int{100, 101, 102}, 5, []int{10, 10, 12}},
	// too many: the greatest part has one less
	{[]int{1000, 1, 1, 1}, 5, []int{29, 1, 1, 1}},
	{[]int{1, 1, 1, 1000}, 5, []int{1, 1, 1, 29}},
	// and of several each time the first one
	{[]int{500, 500, 1, 1, 1}, 5, []int{14, 15, 1, 1, 1}},
	{[]int{500, 500, 1, 1, 1, 1}, 5, []int{14, 14, 1, 1, 1, 1}},
	{[]int{500, 500, 1, 1, 1, 1, 1}, 5, []int{13, 14, 1, 1, 1, 1, 1}},
	{[]int{0, 500, 0, 500, 1, 1, 1, 1, 1}, 5, []int{0, 13, 0, 14, 1, 1, 1, 1, 1}},
	// the second count is greater, the first part as great
	{[]int{500, 501, 1, 1, 1, 1, 1}, 5, []int{13, 14, 1, 1, 1, 1, 1}},
	// what is taken off goes from one to another, as they get less
	{[]int{600, 400, 1, 1, 1, 1, 1, 1, 1, 1, 1, 1, 1, 1, 1, 1, 1, 1, 1, 1}, 5,
		append([]int{7, 7}, repeat(1, 18)...)},
	// as many symbols as the size
	{repeat(1, 32), 5, repeat(1, 32)},
	{append(repeat(1, 31), 1<<20), 5, repeat(1, 32)},
	{append([]int{1 << 20}, repeat(1, 31)...), 5, repeat(1, 32)},
	{append(make([]int, 224), repeat(9, 32)...), 5, append(make([]int, 224), repeat(1, 32)...)},
	{repeat(1, 33), 6, append([]int{32}, repeat(1, 32)...)},
	{repeat(1<<20, 256), 8, repeat(1, 256)},
	{repeat(1<<20, 256), 9, repeat(2, 256)},
}

// logs are counts, and their logs.
var logs = []struct {
	counts []int
	log    int
}{
	{[]int{1}, 5},
	{[]int{0, 0, 263}, 5},
	{[]int{0, 0, 264}, 6},
	{[]int{200, 63}, 5},
	{[]int{200, 64}, 6},
	{[]int{519}, 6},
	{[]int{520}, 7},
	{[]int{1031}, 7},
	{[]int{1032}, 8},
	{[]int{2055}, 8},
	{[]int{2056}, 9},
	{[]int{4104}, 9},
	{[]int{1 << 20}, 9},
	{repeat(1<<20, 256), 9},
	{repeat(1, 8), 5},
	{repeat(1, 9), 6},
	{append(make([]int, 200), repeat(1, 8)...), 5},
	{repeat(1, 16), 6},
	{repeat(1, 17), 7},
	{repeat(1, 32), 7},
	{repeat(1, 33), 8},
	{repeat(1, 64), 8},
	{repeat(1, 65), 9},
	{repeat(1, 129), 9},
	{repeat(1, 256), 9},
}

// A dice gives the same numbers in every run.
type dice uint64

func (d *dice) next() int {
	*d = *d*6364136223846793005 + 1442695040888963407
	return int(*d >> 33)
}

// counts makes counts of so many places that may be, few great ones among small ones and noughts.
func (d *dice) counts(n int) []int {
	l := make([]int, n)
	for i := range l {
		switch d.next() % 4 {
		case 0:
			l[i] = d.next() % (1<<20 + 1)
		case 1:
			l[i] = d.next() % 10
		case 2:
			l[i] = d.next() % 1000
		}
	}
	l[d.next()%n]++
	for i := range l {
		l[i] = min(l[i], 1<<20)
	}
	return l
}

// repeat makes a list of n times v.
func repeat(v, n int) []int {
	return slices.Repeat([]int{v}, n)
}

// is fails if got isn't want.
func is[T comparable](t *testing.T, got, want T) {
	t.Helper()
	if got != want {
		t.Fatalf("%#v, not %#v", got, want)
	}
}

// list fails if got hasn't just the numbers of want.
func list(t *testing.T, got, want []int) {
	t.Helper()
	if !slices.Equal(got, want) {
		t.Fatalf("%v, not %v", got, want)
	}
}

// share fails if counts have another share than want.
func share(t *testing.T, counts []int, log int, want []int) {
	t.Helper()
	got, ok := Share(counts, log)
	if !ok || !slices.Equal(got, want) {
		t.Fatalf("Share(%v, %d): %v, %v, not %v", counts, log, got, ok, want)
	}
}

// refuse fails if counts have a share.
func refuse(t *testing.T, counts []int, log int) {
	t.Helper()
	if got, ok := Share(counts, log); ok || len(got) != 0 {
		t.Fatalf("Share(%v, %d): %v, %v", counts, log, got, ok)
	}
}

// expected tells the share of counts that have one, by another way: what is too much goes down to a level at once.
func expected(counts []int, log int) []int {
	size, sum, all := 1<<log, 0, 0
	for _, n := range counts {
		sum += n
	}
	l := make([]int, len(counts))
	for i, n := range counts {
		l[i] = n * size / sum
		if n > 0 && l[i] == 0 {
			l[i] = 1
		}
		all += l[i]
	}
	if all <= size {
		l[slices.Index(counts, slices.Max(counts))] += size - all
		return l
	}
	level := slices.Max(l)
	for above(l, level-1) <= all-size {
		level--
	}
	left := all - size - above(l, level)
	for i := range l {
		l[i] = min(l[i], level)
		if l[i] == level && left > 0 {
			l[i]--
			left--
		}
	}
	return l
}

// above tells how much of l is above a level.
func above(l []int, level int) int {
	n := 0
	for _, v := range l {
		n += max(v-level, 0)
	}
	return n
}

// symbols tells how many of l aren't 0.
func symbols(l []int) int {
	return len(slices.DeleteFunc(slices.Clone(l), func(n int) bool { return n == 0 }))
}

func TestExample(t *testing.T) {
	share(t, []int{3, 1}, 5, []int{24, 8})
}

func TestOf(t *testing.T) {
	for _, c := range []struct {
		b      string
		counts []int
	}{
		{"\x00", []int{1}},
		{"\x00\x00\x00", []int{3}},
		{"\x01", []int{0, 1}},
		{"\x02\x00\x02", []int{1, 0, 2}},
		{"\x03\x01\x00\x01", []int{1, 2, 0, 1}},
		{"\xFF", append(make([]int, 255), 1)},
		{"\xFF\x00\xFF", append(append([]int{1}, make([]int, 254)...), 2)},
		{"\xFE\x80", append(append(append(make([]int, 128), 1), make([]int, 125)...), 1)},
	} {
		list(t, Of([]byte(c.b)), c.counts)
	}
	is(t, len(Of(nil)), 0)
	is(t, len(Of([]byte{})), 0)
}

func TestOfEachByte(t *testing.T) {
	all := make([]byte, 0, 256)
	for b := range 256 {
		list(t, Of([]byte{byte(b), byte(b)}), append(make([]int, b), 2))
		all = append(all, byte(b))
		list(t, Of(all), repeat(1, b+1))
	}
	slices.Reverse(all)
	list(t, Of(all), repeat(1, 256))
}

func TestOfMoreThanACountMayBe(t *testing.T) {
	b := make([]byte, 1<<20+1)
	list(t, Of(b), []int{1<<20 + 1})
	is(t, Right(Of(b)), false)
	is(t, Right(Of(b[1:])), true)
}

func TestRight(t *testing.T) {
	for _, counts := range [][]int{
		{1},
		{0, 1},
		{1, 0},
		{1 << 20},
		{0, 1<<20 - 1, 0},
		repeat(1<<20, 256),
		append(make([]int, 255), 1),
		append([]int{1}, make([]int, 255)...),
	} {
		is(t, Right(counts), true)
	}
	for _, counts := range wrong {
		if Right(counts) {
			t.Fatalf("%v", counts)
		}
	}
}

func TestSymbols(t *testing.T) {
	for _, c := range []struct {
		counts []int
		n      int
	}{
		{nil, 0},
		{[]int{}, 0},
		{[]int{0}, 0},
		{make([]int, 256), 0},
		{[]int{1}, 1},
		{[]int{0, 1}, 1},
		{[]int{2, 0, 3, 0}, 2},
		{repeat(1<<20, 256), 256},
		{append(make([]int, 255), 1), 1},
		// of counts that may not be too
		{[]int{-1}, 0},
		{[]int{-1, 5, math.MinInt}, 1},
		{[]int{math.MaxInt, 1<<20 + 1}, 2},
		{make([]int, 300), 0},
	} {
		is(t, Symbols(c.counts), c.n)
	}
}

func TestShares(t *testing.T) {
	for _, c := range shares {
		share(t, c.counts, c.log, c.share)
	}
}

func TestNoShareOfCountsThatMayNotBe(t *testing.T) {
	for _, counts := range wrong {
		for log := 4; log <= 10; log++ {
			refuse(t, counts, log)
		}
	}
}

func TestNoShareByAnotherLog(t *testing.T) {
	for _, log := range wrongLogs {
		for _, counts := range [][]int{{3, 1}, {16}, {1}, nil, {-1}} {
			refuse(t, counts, log)
		}
	}
}

func TestNoShareOfMoreSymbolsThanTheSize(t *testing.T) {
	for log := 5; log <= 9; log++ {
		for n := 1; n <= 256; n++ {
			if n > 1<<log {
				refuse(t, repeat(7, n), log)
				continue
			}
			share(t, repeat(7, n), log, expected(repeat(7, n), log))
		}
	}
	// It is the symbols that count, not the places.
	refuse(t, append(make([]int, 100), repeat(1, 33)...), 5)
	share(t, append(make([]int, 100), repeat(1, 32)...), 5, append(make([]int, 100), repeat(1, 32)...))
}

func TestShareOfAnyCounts(t *testing.T) {
	d := dice(5)
	for round := range 3000 {
		counts := d.counts(1 + d.next()%256)
		if round%2 == 0 {
			counts = counts[:min(len(counts), 40)]
		}
		if !Right(counts) {
			continue
		}
		for log := 5; log <= 9; log++ {
			if symbols(counts) > 1<<log {
				refuse(t, counts, log)
				continue
			}
			want := expected(counts, log)
			share(t, counts, log, want)
			is(t, Fair(want, log), true)
			is(t, Symbols(want), Symbols(counts))
		}
	}
}

func TestShareOfFewCounts(t *testing.T) {
	for a := range 40 {
		for b := range 40 {
			for c := range 40 {
				if a+b+c > 0 {
					share(t, []int{a, b, c}, 5, expected([]int{a, b, c}, 5))
				}
			}
		}
	}
}

func TestLogs(t *testing.T) {
	for _, c := range logs {
		is(t, Log(c.counts), c.log)
	}
	for _, counts := range wrong {
		is(t, Log(counts), 0)
	}
}

func TestLogAtEachSumAndNumberOfSymbols(t *testing.T) {
	for n := 1; n <= 256; n++ {
		counts := repeat(1, n)
		for sum := n; sum < 5000; sum += 13 {
			counts[n-1] = sum - n + 1
			want := 5
			for _, log := range []int{6, 7, 8, 9} {
				if half := 1 << (log - 1); half < 4*n || half < sum/8 {
					want = log
				}
			}
			is(t, Log(counts), want)
			if _, ok := Share(counts, want); !ok {
				t.Fatalf("no share of %v by its log", counts)
			}
		}
	}
}

func TestFair(t *testing.T) {
	for _, c := range []struct {
		share []int
		log   int
		fair  bool
	}{
		{[]int{24, 8}, 5, true},
		{[]int{0, 24, 0, 8, 0}, 5, true},
		{[]int{32}, 5, true},
		{[]int{0, 32}, 5, true},
		{[]int{32, 0}, 5, true},
		{[]int{64}, 6, true},
		{[]int{128}, 7, true},
		{[]int{256}, 8, true},
		{[]int{512}, 9, true},
		{repeat(2, 256), 9, true},
		{repeat(1, 256), 8, true},
		{append(make([]int, 255), 32), 5, true},
		{append([]int{32}, make([]int, 255)...), 5, true},
		// too many numbers
		{append(make([]int, 256), 32), 5, false},
		{append([]int{32}, make([]int, 256)...), 5, false},
		{repeat(1, 512), 9, false},
		// another sum
		{nil, 5, false},
		{[]int{}, 9, false},
		{[]int{0}, 5, false},
		{[]int{31}, 5, false},
		{[]int{33}, 5, false},
		{[]int{24, 7}, 5, false},
		{[]int{24, 9}, 5, false},
		{[]int{32, 1}, 5, false},
		{[]int{1, 32}, 5, false},
		{[]int{24, 8}, 6, false},
		{[]int{64}, 5, false},
		// below 0
		{[]int{-1, 33}, 5, false},
		{[]int{33, -1}, 5, false},
		{[]int{32, -1, 1}, 5, false},
		{[]int{31, 2, -1}, 5, false},
		{[]int{-32}, 5, false},
		// a sum that goes round to the size
		{[]int{math.MaxInt, math.MaxInt, 34}, 5, false},
		{[]int{34, math.MaxInt, math.MaxInt}, 5, false},
		{[]int{math.MinInt, math.MinInt, 32}, 5, false},
		{[]int{32, math.MinInt, math.MinInt}, 5, false},
		// no such size
		{[]int{16}, 4, false},
		{[]int{2}, 1, false},
		{[]int{1}, 0, false},
		{[]int{1024}, 10, false},
		{[]int{1 << 20}, 20, false},
	} {
		if got := Fair(c.share, c.log); got != c.fair {
			t.Fatalf("Fair(%v, %d): %v", c.share, c.log, got)
		}
	}
}

func TestNotFairByAnotherLog(t *testing.T) {
	for _, log := range wrongLogs {
		for _, l := range [][]int{nil, {0}, {1}, {16}, {24, 8}, {math.MinInt}, {math.MaxInt}} {
			is(t, Fair(l, log), false)
		}
	}
}

func TestWhatIsHandedInStays(t *testing.T) {
	b := []byte("pemmican")
	counts := Of(b)
	is(t, string(b), "pemmican")
	kept := slices.Clone(counts)
	Right(counts)
	Symbols(counts)
	Log(counts)
	for log := 4; log <= 10; log++ {
		l, _ := Share(counts, log)
		Fair(counts, log)
		for i := range l {
			l[i] = -1
		}
	}
	list(t, counts, kept)
}

func TestAnswersAreTheCallers(t *testing.T) {
	b := []byte{0, 1, 1}
	clear(Of(b))
	list(t, Of(b), []int{1, 2})
	// A count that is its own share too.
	counts := []int{24, 8}
	l, _ := Share(counts, 5)
	l[0] = 0
	list(t, counts, []int{24, 8})
	share(t, counts, 5, []int{24, 8})
	more := append(counts, 5)[:2]
	l, _ = Share(more, 5)
	_ = append(l, 7)
	is(t, more[:3][2], 5)
}

func FuzzShare(f *testing.F) {
	f.Add([]byte(""), 5)
	f.Add([]byte("aaab"), 5)
	f.Add([]byte("a text of some bytes"), 9)
	f.Fuzz(func(t *testing.T, b []byte, log int) {
		counts := Of(b)
		is(t, symbols(counts), Symbols(counts))
		if !Right(counts) || log < 5 || log > 9 || Symbols(counts) > 1<<log {
			refuse(t, counts, log)
			return
		}
		share(t, counts, log, expected(counts, log))
	})
}
