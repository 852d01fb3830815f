package huff

import (
	"cmp"
	"math"
	"slices"
	"strconv"
	"strings"
	"testing"

	"pemmican/count"
)

// wrongCounts are counts that may not be.
var wrongCounts = [][]int{
	nil,
	{},
	{0},
	{0, 0, 0},
	{-1},
	{3, -1},
	{-1, 3},
	{0, math.MinInt},
	{1<<20 + 1},
	{3, 1<<20 + 1, 2},
	{math.MaxInt, math.MaxInt},
	{1 << 32},
	make([]int, 256),
	make([]int, 257),
	slices.Repeat([]int{1}, 257),
	append([]int{5, 2, 1}, make([]int, 254)...),
	slices.Repeat([]int{1}, 1000),
}

// wrongLengths are no lengths.
var wrongLengths = [][]int{
	{-1},
	{12},
	{1, -1},
	{-1, 1},
	{1, 1, -1},
	{1, 2, 12},
	{1, 2, 2, 12},
	{1, 2, 2, 64},
	{1, 1 << 32},
	{1 + 1<<32, 1 + 1<<32},
	{math.MinInt},
	{math.MaxInt, 1},
	make([]int, 257),
	append([]int{1}, make([]int, 256)...),
	append([]int{1, 2, 2}, make([]int, 254)...),
	slices.Repeat([]int{8}, 257),
	slices.Repeat([]int{9}, 512),
	slices.Repeat([]int{11}, 2048),
}

// worked are counts, their least cost, and the least one of lengths up to 11, worked out beside the program.
var worked = []struct {
	counts        []int
	best, bounded int
}{
	{[]int{5, 2, 1}, 11, 11},
	{[]int{1}, 1, 1},
	{[]int{1 << 20}, 1 << 20, 1 << 20},
	{[]int{0, 0, 7}, 7, 7},
	{[]int{0, 7, 0, 0}, 7, 7},
	{[]int{1, 1}, 2, 2},
	{[]int{1 << 20, 1}, 1<<20 + 1, 1<<20 + 1},
	{[]int{1, 1, 1}, 5, 5},
	{[]int{1, 1, 1, 1}, 8, 8},
	{[]int{4, 3, 2, 1}, 19, 19},
	{[]int{3, 0, 5, 0, 0, 1, 9}, 31, 31},
	{slices.Repeat([]int{1}, 256), 2048, 2048},
	{slices.Repeat([]int{1 << 20}, 256), 1 << 31, 1 << 31},
	{fibonacci(12), 971, 971},
	{fibonacci(13), 1580, 1581},
	{fibonacci(30), 5702853, 5705460},
	{powers(12), 8177, 8177},
	{powers(13), 16368, 16373},
	{powers(21), 4194280, 4210677},
	{append(append([]int{1}, powers(21)...), 0, 3, 3, 3), 4194494, 4218979},
	{append(slices.Repeat([]int{1}, 100), 1<<20, 1<<20, 1<<20), 6292328, 6292328},
}

// fibonacci makes n counts, of which each is the two ahead.
func fibonacci(n int) []int {
	l := []int{1, 1}
	for len(l) < n {
		l = append(l, l[len(l)-1]+l[len(l)-2])
	}
	return l
}

// powers makes n counts, of which each is twice the one ahead.
func powers(n int) []int {
	l := make([]int, n)
	for i := range l {
		l[i] = 1 << i
	}
	return l
}

// A dice gives the same numbers in every run.
type dice uint64

func (d *dice) next() int {
	*d = *d*6364136223846793005 + 1442695040888963407
	return int(*d >> 33)
}

// counts makes n counts, some of them 0, the others of unlike sizes.
func (d *dice) counts(n int) []int {
	l := make([]int, n)
	for i := range l {
		l[i] = d.next() % (1 << (d.next() % 21)) * min(1, d.next()%6)
	}
	l[d.next()%n] = 1 + d.next()%(1<<20)
	return l
}

// above answers the numbers of l that are above 0, the greatest one first.
func above(l []int) []int {
	var more []int
	for _, n := range l {
		if n > 0 {
			more = append(more, n)
		}
	}
	slices.Sort(more)
	slices.Reverse(more)
	return more
}

// joined tells the least cost by Huffman's way, in a list that is kept in order.
func joined(counts []int) int {
	l := above(counts)
	if len(l) == 1 {
		return l[0]
	}
	cost := 0
	for len(l) > 1 {
		n := l[len(l)-2] + l[len(l)-1]
		cost += n
		l = append(l[:len(l)-2], n)
		slices.SortFunc(l, func(a, b int) int { return b - a })
	}
	return cost
}

// least tells the least cost of lengths that are at most most, by trying how many codes of each length there are.
func least(counts []int, most int) int {
	l := above(counts)
	if len(l) == 1 {
		return l[0]
	}
	n := len(l)
	rest := make([]int, n+1) // what comes from a place on
	for i := n - 1; i >= 0; i-- {
		rest[i] = rest[i+1] + l[i]
	}
	// costs[j][m]: the least cost, from a length on, of what comes from j on, if there are m codes of it, each a symbol's or cut in two.
	costs := table(n)
	for j := range n + 1 {
		costs[j][n-j] = 0
	}
	for range most {
		next := table(n)
		next[n][0] = 0
		for j := range n {
			for m := 1; m <= n-j; m++ {
				for k := range m + 1 {
					if 2*(m-k) <= n-j-k {
						next[j][m] = min(next[j][m], costs[j+k][2*(m-k)]+rest[j+k])
					}
				}
			}
		}
		costs = next
	}
	return costs[0][1]
}

// table makes a list of lists in which nothing is possible.
func table(n int) [][]int {
	t := make([][]int, n+1)
	for i := range t {
		t[i] = slices.Repeat([]int{1 << 50}, n+1)
	}
	return t
}

// flat tells the length that codes of n symbols need, if all are alike.
func flat(n int) int {
	return max(1, int(math.Ceil(math.Log2(float64(n)))))
}

// some tells whether l are lengths.
func some(l []int) bool {
	return len(l) <= 256 && (len(l) == 0 || slices.Min(l) >= 0 && slices.Max(l) <= 11)
}

// fill tells whether l are lengths that are whole.
func fill(l []int) bool {
	if !some(l) {
		return false
	}
	sum := 0.0
	for _, n := range above(l) {
		sum += 1 / math.Pow(2, float64(n))
	}
	return sum == 1 || slices.Equal(above(l), []int{1})
}

// numbered tells the codes of lengths that are whole, by adding 1 to a number of base 2 that is written out.
func numbered(lengths []int) []int {
	var order []int
	for i, n := range lengths {
		if n > 0 {
			order = append(order, i)
		}
	}
	slices.SortStableFunc(order, func(a, b int) int { return cmp.Compare(lengths[a], lengths[b]) })
	codes := make([]int, len(lengths))
	text := ""
	for k, i := range order {
		if k > 0 {
			// 1 is added: a nought gets a one, and all ones behind it noughts.
			at := strings.LastIndex(text, "0")
			text = text[:at] + "1" + strings.Repeat("0", len(text)-at-1)
		}
		text += strings.Repeat("0", lengths[i]-len(text))
		n, _ := strconv.ParseInt(text, 2, 64)
		codes[i] = int(n)
	}
	return codes
}

// asked fails if Lengths of counts that may be doesn't answer as it must.
func asked(t *testing.T, counts []int) []int {
	t.Helper()
	lengths, ok := Lengths(counts)
	if !ok || len(lengths) != len(counts) || !fill(lengths) || !Whole(lengths) {
		t.Fatalf("Lengths(%v): %v, %v", counts, lengths, ok)
	}
	cost := 0
	for i, n := range counts {
		if n > 0 != (lengths[i] > 0) {
			t.Fatalf("Lengths(%v): %v", counts, lengths)
		}
		cost += n * lengths[i]
	}
	if got, ok := Cost(counts, lengths); !ok || got != cost {
		t.Fatalf("Cost(%v, %v): %d, %v, not %d", counts, lengths, got, ok, cost)
	}
	best := joined(counts)
	if got := Best(counts); got != best {
		t.Fatalf("Best(%v): %d, not %d", counts, got, best)
	}
	// It is at least the least one, and that, if there is no bound to it; else at most that of lengths as alike as may be.
	bounded := least(counts, 11)
	if cost < bounded || bounded == best && cost != best || cost > least(counts, flat(len(above(counts)))) {
		t.Fatalf("Lengths(%v): %v, they cost %d", counts, lengths, cost)
	}
	return lengths
}

// coded fails if Whole and Codes don't answer as they must.
func coded(t *testing.T, lengths []int) {
	t.Helper()
	whole := fill(lengths)
	if Whole(lengths) != whole {
		t.Fatalf("Whole(%v): %v", lengths, !whole)
	}
	codes, ok := Codes(lengths)
	if ok != whole || !whole && len(codes) > 0 {
		t.Fatalf("Codes(%v): %v, %v", lengths, codes, ok)
	}
	if whole && !slices.Equal(codes, numbered(lengths)) {
		t.Fatalf("Codes(%v): %v, not %v", lengths, codes, numbered(lengths))
	}
}

// costs fails if Cost doesn't answer so.
func costs(t *testing.T, counts, lengths []int, cost int, is bool) {
	t.Helper()
	if got, ok := Cost(counts, lengths); got != cost || ok != is {
		t.Fatalf("Cost(%v, %v): %d, %v, not %d, %v", counts, lengths, got, ok, cost, is)
	}
}

func TestExample(t *testing.T) {
	lengths := asked(t, []int{5, 2, 1})
	if !slices.Equal(lengths, []int{1, 2, 2}) {
		t.Fatal(lengths)
	}
	codes, ok := Codes(lengths)
	if !ok || !slices.Equal(codes, []int{0b0, 0b10, 0b11}) {
		t.Fatal(codes, ok)
	}
	costs(t, []int{5, 2, 1}, lengths, 11, true)
	if Best([]int{5, 2, 1}) != 11 {
		t.Fatal(Best([]int{5, 2, 1}))
	}
}

func TestWorked(t *testing.T) {
	for _, w := range worked {
		if got := Best(w.counts); got != w.best {
			t.Errorf("Best(%v): %d, not %d", w.counts, got, w.best)
		}
		// Where Huffman's are too long, they cost what lengths of at most 11 cost at least.
		costs(t, w.counts, asked(t, w.counts), w.bounded, true)
		back := slices.Clone(w.counts)
		slices.Reverse(back)
		costs(t, back, asked(t, back), w.bounded, true)
	}
}

func TestEachFewCounts(t *testing.T) {
	for i := range 7 * 7 * 7 * 7 * 7 {
		counts := []int{i % 7, i / 7 % 7, i / 49 % 7, i / 343 % 7, i / 2401}
		if i > 0 {
			asked(t, counts)
			asked(t, append(counts, 40, 100, 7, 500))
		}
	}
}

func TestAnyCounts(t *testing.T) {
	d := dice(9)
	for range 400 {
		asked(t, d.counts(1+d.next()%5))
		asked(t, d.counts(1+d.next()%40))
	}
	for range 3 {
		asked(t, d.counts(100))
		asked(t, d.counts(256))
	}
}

func TestTooLongForABound(t *testing.T) {
	for n := 2; n <= 30; n++ {
		asked(t, fibonacci(n))
		for more := range 20 {
			asked(t, append(fibonacci(n), slices.Repeat([]int{1 + more}, more)...))
		}
	}
	for n := 2; n <= 21; n++ {
		for _, one := range []int{1, 2, 3, 1000, 1 << 20} {
			asked(t, append(powers(n), one))
			asked(t, append(slices.Repeat([]int{1}, n), append(powers(n), one)...))
		}
	}
	// All symbols, by counts that get greater fast: 8 bits for each are one way.
	counts := slices.Repeat([]int{1}, 256)
	for i := range 120 {
		counts[2*i] = 1 << (i % 21)
	}
	asked(t, counts)
}

func TestAsManyCodesAsSymbols(t *testing.T) {
	for n := 1; n <= 256; n++ {
		counts := slices.Repeat([]int{3}, n)
		lengths, ok := Lengths(counts)
		if !ok || !fill(lengths) || len(lengths) != n || slices.Max(lengths) != flat(n) || slices.Min(lengths) < flat(n)-1 {
			t.Fatal(n, lengths, ok)
		}
		coded(t, lengths)
	}
}

func TestWrongCounts(t *testing.T) {
	for _, counts := range wrongCounts {
		if lengths, ok := Lengths(counts); ok || len(lengths) > 0 {
			t.Fatalf("Lengths(%v): %v, %v", counts, lengths, ok)
		}
		if n := Best(counts); n != 0 {
			t.Fatalf("Best(%v): %d", counts, n)
		}
		costs(t, counts, nil, 0, false)
		costs(t, counts, slices.Repeat([]int{8}, 256), 0, false)
		costs(t, counts, slices.Repeat([]int{1}, len(counts)), 0, false)
		costs(t, counts, slices.Repeat([]int{0}, len(counts)), 0, false)
	}
}

func TestEachFewLengths(t *testing.T) {
	coded(t, nil)
	coded(t, []int{})
	for i := range 14 * 14 * 14 * 14 {
		l := []int{i%14 - 1, i/14%14 - 1, i/196%14 - 1, i/2744 - 1}
		for n := range 5 {
			coded(t, l[:n])
		}
	}
	for i := range 6 * 6 * 6 * 6 * 6 * 6 {
		coded(t, []int{i % 6, i / 6 % 6, i / 36 % 6, i / 216 % 6, i / 1296 % 6, i / 7776})
	}
}

func TestAnyWholeLengths(t *testing.T) {
	d := dice(91)
	for range 3000 {
		// A code that is cut in two leaves lengths whole; noughts go anywhere among them.
		l := []int{1, 1}
		for range d.next() % 120 {
			if at := d.next() % len(l); l[at] < 11 {
				l[at]++
				l = slices.Insert(l, d.next()%len(l), l[at])
			}
		}
		for range d.next() % 20 {
			l = slices.Insert(l, d.next()%(len(l)+1), 0)
		}
		if !fill(l) {
			t.Fatal(l)
		}
		coded(t, l)
		l[d.next()%len(l)] = d.next() % 12
		coded(t, l)
	}
}

func TestLongestCodes(t *testing.T) {
	l := []int{1, 2, 3, 4, 5, 6, 7, 8, 9, 10, 11, 11}
	coded(t, l)
	codes, ok := Codes(l)
	if !ok || codes[11] != 1<<11-1 || codes[10] != 1<<11-2 || codes[0] != 0 || codes[9] != 1<<10-2 {
		t.Fatal(codes, ok)
	}
	slices.Reverse(l)
	codes, ok = Codes(l)
	if !ok || codes[11] != 0 || codes[0] != 1<<11-2 || codes[1] != 1<<11-1 {
		t.Fatal(codes, ok)
	}
	coded(t, l[:11])
	l[0] = 12
	coded(t, l)
}

func TestOneCode(t *testing.T) {
	for at := range 256 {
		l := make([]int, 256)
		for n := range 13 {
			l[at] = n
			coded(t, l)
			coded(t, l[:at+1])
		}
		l[at] = 1
		codes, ok := Codes(l)
		if !ok || !slices.Equal(codes, make([]int, 256)) {
			t.Fatal(codes, ok)
		}
		if !Whole(l) || Whole(append(l, 0)) {
			t.Fatal(at)
		}
		l[at] = 1 << 20
		costs(t, l, asked(t, l), 1<<20, true)
	}
}

func TestManyLengths(t *testing.T) {
	for n := 1; n <= 11; n++ {
		for _, many := range []int{1, 2, 3, 1 << n, 1<<n - 1, 1<<n + 1} {
			coded(t, slices.Repeat([]int{n}, many))
		}
	}
	for zeros := 253; zeros <= 256; zeros++ {
		coded(t, append(make([]int, zeros), 1, 2, 2))
		coded(t, append([]int{1, 2, 2}, make([]int, zeros)...))
	}
}

func TestWrongLengths(t *testing.T) {
	for _, l := range wrongLengths {
		coded(t, l)
		costs(t, []int{3}, l, 0, false)
		costs(t, []int{3}, append([]int{1}, l...), 0, false)
		costs(t, []int{3, 2}, append([]int{1, 1}, l...), 0, false)
		if len(l) <= 256 {
			costs(t, slices.Repeat([]int{1}, len(l)), l, 0, false)
		}
	}
}

func TestCost(t *testing.T) {
	for _, c := range []struct {
		counts, lengths []int
		cost            int
		ok              bool
	}{
		{[]int{5, 2, 1}, []int{2, 2, 1}, 15, true},
		// They need be neither whole nor as many as the counts.
		{[]int{5, 2, 1}, []int{1, 1, 1}, 8, true},
		{[]int{5, 2, 1}, []int{11, 11, 11}, 88, true},
		{[]int{5, 2, 1}, []int{1, 2, 3, 4}, 12, true},
		{[]int{5, 0, 1}, []int{1, 0, 3}, 8, true},
		{[]int{5, 0, 1}, []int{1, 7, 3}, 8, true},
		{[]int{0, 9}, []int{0, 3}, 27, true},
		{[]int{7}, []int{1}, 7, true},
		{[]int{7}, append([]int{4}, make([]int, 255)...), 28, true},
		{slices.Repeat([]int{1 << 20}, 256), slices.Repeat([]int{11}, 256), 11 << 28, true},
		{[]int{7}, append([]int{4}, make([]int, 256)...), 0, false},
		{[]int{5, 2, 1}, []int{1, 2}, 0, false},
		{[]int{5, 2, 0}, []int{1, 2}, 0, false},
		{[]int{5}, nil, 0, false},
		{[]int{0, 5}, []int{0}, 0, false},
		{[]int{5, 2, 1}, []int{0, 2, 1}, 0, false},
		{[]int{5, 2, 1}, []int{1, 0, 1}, 0, false},
		{[]int{5, 2, 1}, []int{1, 2, 0}, 0, false},
		{[]int{5, 2, 1}, []int{1, 2, 0, 2}, 0, false},
		{[]int{5, 2, 1}, []int{0, 0, 0}, 0, false},
		{[]int{5, 0, 1}, []int{1, -1, 1}, 0, false},
		{[]int{5, 0, 1}, []int{1, 12, 1}, 0, false},
		{[]int{5, 2, 1}, []int{1, 2, 12}, 0, false},
		{[]int{5, 2, 1}, []int{1, 2, 2, 12}, 0, false},
		{[]int{5, 2, 1}, []int{1, 2, 2, -1}, 0, false},
		{[]int{0, 0}, []int{1, 1}, 0, false},
		{nil, nil, 0, false},
		{nil, []int{1, 1}, 0, false},
	} {
		costs(t, c.counts, c.lengths, c.cost, c.ok)
	}
}

func TestNothingIsChangedOrKept(t *testing.T) {
	for _, w := range worked {
		counts := slices.Clone(w.counts)
		lengths := asked(t, counts)
		if !slices.Equal(counts, w.counts) {
			t.Fatal(counts)
		}
		was := slices.Clone(lengths)
		codes, _ := Codes(lengths)
		if !slices.Equal(lengths, was) {
			t.Fatal(lengths)
		}
		kept := slices.Clone(codes)
		clear(counts)
		if !slices.Equal(lengths, was) {
			t.Fatal(lengths)
		}
		clear(lengths)
		if !slices.Equal(codes, kept) {
			t.Fatal(codes)
		}
		if again, _ := Lengths(w.counts); !slices.Equal(again, was) {
			t.Fatal(again, was)
		}
		_ = append(codes, -1)
		clear(codes)
		if again, _ := Codes(was); !slices.Equal(again, kept) {
			t.Fatal(again, kept)
		}
	}
}

func FuzzCounts(f *testing.F) {
	f.Add([]byte{5, 2, 1})
	f.Add([]byte{})
	f.Add([]byte{0, 0})
	f.Add([]byte("a text, by which the counts are none that rise fast"))
	f.Fuzz(func(t *testing.T, b []byte) {
		// The highest three bits of a byte tell how far the others are moved.
		counts := make([]int, len(b))
		for i, c := range b {
			counts[i] = int(c&31) << (c >> 5 * 2)
		}
		if len(counts) > 60 {
			counts = counts[:60]
		}
		if count.Right(counts) {
			coded(t, asked(t, counts))
			return
		}
		if lengths, ok := Lengths(counts); ok || len(lengths) > 0 || Best(counts) != 0 {
			t.Fatal(lengths, ok)
		}
	})
}

func FuzzLengths(f *testing.F) {
	f.Add([]byte{1, 2, 2})
	f.Add([]byte{})
	f.Add([]byte{0, 1})
	f.Add([]byte{1, 2, 3, 4, 5, 6, 7, 8, 9, 10, 11, 11})
	f.Fuzz(func(t *testing.T, b []byte) {
		l := make([]int, len(b))
		for i, c := range b {
			l[i] = int(int8(c))
		}
		coded(t, l)
	})
}
