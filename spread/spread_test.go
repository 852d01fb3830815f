package spread

import (
	"math"
	"slices"
	"testing"

	"pemmican/api"
)

// wrong are numbers that no state, and no bits of one, have in a table of any size.
var wrong = []int{-1, -2, -31, -32, -512, 512, 513, 1 << 16, 1 << 31, 1 << 32, 1<<32 + 5, math.MinInt, math.MaxInt}

// unfair are shares, and logs, of which there is no table.
var unfair = []struct {
	share []int
	log   int
}{
	{nil, 5},
	{[]int{}, 5},
	{nil, 0},
	{[]int{0}, 5},
	{[]int{31}, 5},
	{[]int{33}, 5},
	{[]int{24, 7}, 5},
	{[]int{24, 9}, 5},
	{[]int{24, 8}, 6},
	{[]int{64}, 5},
	{[]int{-1, 33}, 5},
	{[]int{33, -1}, 5},
	{[]int{32, -1, 1}, 5},
	{[]int{math.MaxInt, math.MaxInt, 34}, 5},
	{[]int{math.MinInt, math.MinInt, 32}, 5},
	{append([]int{32}, make([]int, 256)...), 5},
	{append(make([]int, 256), 32), 5},
	{repeat(1, 512), 9},
	{[]int{1}, 0},
	{[]int{16}, 4},
	{[]int{1024}, 10},
	{[]int{1}, -1},
	{[]int{1}, 64},
	{[]int{32}, 5 + 1<<32},
	{[]int{32}, math.MinInt},
	{[]int{32}, math.MaxInt},
}

// tables are shares by log 5, and their cells' symbols, bits and bases, worked out beside the program.
var tables = []struct {
	share []int
	cells [][3]int
}{
	{[]int{24, 8}, [][3]int{
		{0, 1, 16}, {0, 1, 18}, {0, 1, 20}, {0, 1, 22}, {1, 2, 0}, {0, 1, 24}, {0, 1, 26}, {0, 1, 28},
		{1, 2, 4}, {1, 2, 8}, {0, 1, 30}, {0, 0, 0}, {0, 0, 1}, {1, 2, 12}, {0, 0, 2}, {0, 0, 3},
		{0, 0, 4}, {0, 0, 5}, {1, 2, 16}, {0, 0, 6}, {0, 0, 7}, {0, 0, 8}, {1, 2, 20}, {0, 0, 9},
		{0, 0, 10}, {0, 0, 11}, {0, 0, 12}, {1, 2, 24}, {0, 0, 13}, {0, 0, 14}, {0, 0, 15}, {1, 2, 28},
	}},
	{[]int{10, 0, 3, 19}, [][3]int{
		{0, 2, 8}, {0, 2, 12}, {3, 1, 6}, {3, 1, 8}, {3, 1, 10}, {0, 2, 16}, {2, 4, 16}, {3, 1, 12},
		{3, 1, 14}, {3, 1, 16}, {0, 2, 20}, {3, 1, 18}, {3, 1, 20}, {3, 1, 22}, {0, 2, 24}, {0, 2, 28},
		{3, 1, 24}, {3, 1, 26}, {3, 1, 28}, {0, 1, 0}, {2, 3, 0}, {3, 1, 30}, {3, 0, 0}, {0, 1, 2},
		{0, 1, 4}, {3, 0, 1}, {3, 0, 2}, {3, 0, 3}, {0, 1, 6}, {2, 3, 8}, {3, 0, 4}, {3, 0, 5},
	}},
	{[]int{0, 1, 30, 1, 0}, [][3]int{
		{1, 5, 0}, {2, 1, 28}, {2, 1, 30}, {2, 0, 0}, {2, 0, 1}, {2, 0, 2}, {2, 0, 3}, {2, 0, 4},
		{2, 0, 5}, {3, 5, 0}, {2, 0, 6}, {2, 0, 7}, {2, 0, 8}, {2, 0, 9}, {2, 0, 10}, {2, 0, 11},
		{2, 0, 12}, {2, 0, 13}, {2, 0, 14}, {2, 0, 15}, {2, 0, 16}, {2, 0, 17}, {2, 0, 18}, {2, 0, 19},
		{2, 0, 20}, {2, 0, 21}, {2, 0, 22}, {2, 0, 23}, {2, 0, 24}, {2, 0, 25}, {2, 0, 26}, {2, 0, 27},
	}},
}

// A dice gives the same numbers in every run.
type dice uint64

func (d *dice) next() int {
	*d = *d*6364136223846793005 + 1442695040888963407
	return int(*d >> 33)
}

// share makes a fair share of n numbers, many small ones and few great ones.
func (d *dice) share(n, log int) []int {
	l := make([]int, n)
	rest := 1 << log
	for rest > 0 {
		more := min(rest, 1+d.next()%(1+d.next()%rest))
		l[d.next()%n] += more
		rest -= more
	}
	return l
}

// repeat makes a list of n times v.
func repeat(v, n int) []int {
	return slices.Repeat([]int{v}, n)
}

// build answers a share's table, and fails if there is none.
func build(t *testing.T, share []int, log int) *Table {
	t.Helper()
	table, ok := Build(share, log)
	if !ok || table == nil {
		t.Fatalf("Build(%v, %d): %v, %v", share, log, table, ok)
	}
	return table
}

// expected tells the cells of a fair share's table by another way: place by place, and each number's bits counted.
func expected(share []int, log int) []api.Cell {
	size := 1 << log
	step := map[int]int{5: 23, 6: 43, 7: 83, 8: 163, 9: 323}[log]
	var order []int
	for symbol, n := range share {
		order = append(order, repeat(symbol, n)...)
	}
	cells := make([]api.Cell, size)
	for i, symbol := range order {
		cells[i*step%size].Symbol = uint8(symbol)
	}
	numbers := slices.Clone(share)
	for state := range cells {
		c := &cells[state]
		x := numbers[c.Symbol]
		numbers[c.Symbol]++
		for x<<c.Bits < size {
			c.Bits++
		}
		c.Base = x<<c.Bits - size
	}
	return cells
}

// cells fails if the table hasn't just these cells.
func cells(t *testing.T, table *Table, log int, want []api.Cell) {
	t.Helper()
	if table.Size() != len(want) || table.Log() != log {
		t.Fatalf("Size %d, Log %d, not %d, %d", table.Size(), table.Log(), len(want), log)
	}
	for state, c := range want {
		if got, ok := table.Cell(state); !ok || got != c {
			t.Fatalf("Cell(%d): %v, %v, not %v", state, got, ok, c)
		}
	}
}

// next fails if Next answers anything else than that state.
func next(t *testing.T, table *Table, state, more, want int) {
	t.Helper()
	if got, ok := table.Next(state, more); !ok || got != want {
		t.Fatalf("Next(%d, %d): %d, %v, not %d", state, more, got, ok, want)
	}
}

// noNext fails if Next answers a state.
func noNext(t *testing.T, table *Table, state, more int) {
	t.Helper()
	if got, ok := table.Next(state, more); ok || got != 0 {
		t.Fatalf("Next(%d, %d): %d, %v", state, more, got, ok)
	}
}

// back fails if Back answers anything else.
func back(t *testing.T, table *Table, state, symbol, ahead, more, n int) {
	t.Helper()
	a, m, k, ok := table.Back(state, uint8(symbol))
	if !ok || a != ahead || m != more || k != n {
		t.Fatalf("Back(%d, %d): %d, %d, %d, %v, not %d, %d, %d", state, symbol, a, m, k, ok, ahead, more, n)
	}
}

// noBack fails if Back answers a state.
func noBack(t *testing.T, table *Table, state, symbol int) {
	t.Helper()
	if a, m, k, ok := table.Back(state, uint8(symbol)); ok || a != 0 || m != 0 || k != 0 {
		t.Fatalf("Back(%d, %d): %d, %d, %d, %v", state, symbol, a, m, k, ok)
	}
}

// nothing fails if there is any state, or any way from one to another.
func nothing(t *testing.T, table *Table) {
	t.Helper()
	if table.Size() != 0 || table.Log() != 0 {
		t.Fatal(table.Size(), table.Log())
	}
	for _, state := range append([]int{0, 1, 31}, wrong...) {
		if c, ok := table.Cell(state); ok || c != (api.Cell{}) {
			t.Fatal("Cell", state, c, ok)
		}
		for _, more := range append([]int{0, 1}, wrong...) {
			noNext(t, table, state, more)
		}
		for symbol := range 256 {
			noBack(t, table, state, symbol)
		}
	}
}

// ways fails if Next and Back don't answer each way that the cells tell, and no other one.
func ways(t *testing.T, table *Table, share []int, want []api.Cell) {
	t.Helper()
	met := make([]int, 256)
	for state, c := range want {
		for more := range 1 << c.Bits {
			next(t, table, state, more, c.Base+more)
			back(t, table, c.Base+more, int(c.Symbol), state, more, c.Bits)
			met[c.Symbol]++
		}
		noNext(t, table, state, 1<<c.Bits)
		noNext(t, table, state, -1)
	}
	for symbol := range 256 {
		if symbol < len(share) && share[symbol] > 0 {
			// Each state once: so each state's way back has been looked at.
			if met[symbol] != len(want) {
				t.Fatalf("%d ways by %d, not %d", met[symbol], symbol, len(want))
			}
			continue
		}
		for state := range want {
			noBack(t, table, state, symbol)
		}
	}
}

// whole fails if the share has another table than the model's.
func whole(t *testing.T, share []int, log int) {
	t.Helper()
	table := build(t, share, log)
	want := expected(share, log)
	cells(t, table, log, want)
	ways(t, table, share, want)
}

func TestExample(t *testing.T) {
	table := build(t, []int{32}, 5)
	for state := range 32 {
		if c, ok := table.Cell(state); !ok || c != (api.Cell{Base: state}) {
			t.Fatal(state, c, ok)
		}
		next(t, table, state, 0, state)
		back(t, table, state, 0, state, 0, 0)
	}
}

func TestTables(t *testing.T) {
	for _, c := range tables {
		want := make([]api.Cell, 0, len(c.cells))
		for _, n := range c.cells {
			want = append(want, api.Cell{Symbol: uint8(n[0]), Bits: n[1], Base: n[2]})
		}
		table := build(t, c.share, 5)
		cells(t, table, 5, want)
		ways(t, table, c.share, want)
	}
}

func TestWaysByHand(t *testing.T) {
	table := build(t, []int{24, 8}, 5)
	next(t, table, 0, 0, 16)
	next(t, table, 0, 1, 17)
	noNext(t, table, 0, 2)
	next(t, table, 4, 3, 3)
	noNext(t, table, 4, 4)
	next(t, table, 11, 0, 0)
	noNext(t, table, 11, 1)
	next(t, table, 31, 3, 31)
	back(t, table, 0, 0, 11, 0, 0)
	back(t, table, 15, 0, 30, 0, 0)
	back(t, table, 16, 0, 0, 0, 1)
	back(t, table, 17, 0, 0, 1, 1)
	back(t, table, 31, 0, 10, 1, 1)
	back(t, table, 0, 1, 4, 0, 2)
	back(t, table, 3, 1, 4, 3, 2)
	back(t, table, 31, 1, 31, 3, 2)
	noBack(t, table, 0, 2)
	noBack(t, table, 0, 255)
}

func TestNoTableOfAnUnfairShare(t *testing.T) {
	for _, c := range unfair {
		if table, ok := Build(c.share, c.log); ok || table != nil {
			t.Fatalf("Build(%v, %d): %v, %v", c.share, c.log, table, ok)
		}
	}
}

func TestOneSymbol(t *testing.T) {
	for log := 5; log <= 9; log++ {
		for _, symbol := range []int{0, 1, 100, 255} {
			share := append(make([]int, symbol), 1<<log)
			whole(t, share, log)
			table := build(t, share, log)
			for state := range 1 << log {
				if c, _ := table.Cell(state); c != (api.Cell{Symbol: uint8(symbol), Base: state}) {
					t.Fatal(log, symbol, state, c)
				}
			}
		}
	}
}

func TestEachShareOfTwoSymbols(t *testing.T) {
	for log := 5; log <= 9; log++ {
		for n := 0; n <= 1<<log; n++ {
			if log == 5 || n%29 == 0 || n < 3 || n > 1<<log-3 || n&(n-1) == 0 || n&(n+1) == 0 {
				whole(t, []int{n, 1<<log - n}, log)
			}
		}
	}
}

func TestAsManySymbolsAsMayBe(t *testing.T) {
	whole(t, repeat(1, 32), 5)
	whole(t, repeat(1, 64), 6)
	whole(t, repeat(1, 128), 7)
	whole(t, repeat(1, 256), 8)
	whole(t, repeat(2, 256), 9)
	whole(t, append(make([]int, 224), repeat(1, 32)...), 5)
	whole(t, append(repeat(1, 255), 257), 9)
	whole(t, append([]int{257}, repeat(1, 255)...), 9)
}

func TestNoughtsBehindChangeNothing(t *testing.T) {
	share := []int{0, 20, 0, 5, 7}
	want := expected(share, 5)
	for n := len(share); n <= 256; n++ {
		more := append(slices.Clone(share), make([]int, n-len(share))...)
		table := build(t, more, 5)
		cells(t, table, 5, want)
		for symbol := len(share); symbol < 256; symbol++ {
			noBack(t, table, 3, symbol)
		}
	}
}

func TestAnyShare(t *testing.T) {
	d := dice(6)
	for range 20 {
		for log := 5; log <= 9; log++ {
			whole(t, d.share(1+d.next()%256, log), log)
			whole(t, d.share(1+d.next()%6, log), log)
		}
	}
}

func TestNextOfBackIsTheState(t *testing.T) {
	d := dice(62)
	for range 200 {
		log := 5 + d.next()%5
		share := d.share(1+d.next()%40, log)
		table := build(t, share, log)
		for symbol, n := range share {
			for state := range 1 << log {
				ahead, more, k, ok := table.Back(state, uint8(symbol))
				if !ok {
					if n > 0 {
						t.Fatalf("no way back from %d by %d of %v", state, symbol, share)
					}
					continue
				}
				c, has := table.Cell(ahead)
				if !has || int(c.Symbol) != symbol || c.Bits != k {
					t.Fatalf("Back(%d, %d): %d, %d, %d of %v", state, symbol, ahead, more, k, c)
				}
				next(t, table, ahead, more, state)
			}
		}
	}
}

func TestNoSuchState(t *testing.T) {
	for log := 5; log <= 9; log++ {
		size := 1 << log
		table := build(t, []int{size - 5, 0, 5}, log)
		for _, state := range append([]int{size, size + 1, 2 * size}, wrong...) {
			if c, ok := table.Cell(state); ok || c != (api.Cell{}) {
				t.Fatal(log, state, c, ok)
			}
			for _, more := range append([]int{0, 1}, wrong...) {
				noNext(t, table, state, more)
			}
			for symbol := range 4 {
				noBack(t, table, state, symbol)
			}
		}
	}
}

func TestNoSuchBits(t *testing.T) {
	for log := 5; log <= 9; log++ {
		size := 1 << log
		table := build(t, []int{size - 1, 1}, log)
		for state := range size {
			c, _ := table.Cell(state)
			for _, more := range append([]int{1 << c.Bits, 1<<c.Bits + 1, size}, wrong...) {
				noNext(t, table, state, more)
			}
		}
	}
}

func TestNothingIsInANilTable(t *testing.T) {
	nothing(t, nil)
	nothing(t, new(Table))
}

func TestShareIsNeitherChangedNorKept(t *testing.T) {
	share := []int{24, 0, 7, 1}
	want := expected(share, 5)
	table := build(t, share, 5)
	if !slices.Equal(share, []int{24, 0, 7, 1}) {
		t.Fatal(share)
	}
	copy(share, []int{0, 32, -1, 99})
	cells(t, table, 5, want)
	ways(t, table, []int{24, 0, 7, 1}, want)
}

func TestTablesGoOnByThemselves(t *testing.T) {
	a := build(t, []int{24, 8}, 5)
	kept := *a
	b := build(t, []int{8, 24}, 5)
	c := build(t, []int{24, 8}, 5)
	for state := range 64 {
		c.Cell(state)
		c.Next(state, 1)
		c.Back(state, 1)
	}
	for _, table := range []*Table{a, &kept, c} {
		cells(t, table, 5, expected([]int{24, 8}, 5))
		ways(t, table, []int{24, 8}, expected([]int{24, 8}, 5))
	}
	cells(t, b, 5, expected([]int{8, 24}, 5))
}

func FuzzBuild(f *testing.F) {
	f.Add([]byte(""), 5, 0, 0)
	f.Add([]byte{24, 8}, 5, 3, 1)
	f.Add([]byte{200, 56}, 8, 255, -1)
	f.Fuzz(func(t *testing.T, b []byte, log, state, more int) {
		share := make([]int, len(b))
		sum := 0
		for i, c := range b {
			share[i] = int(c)
			sum += int(c)
		}
		table, ok := Build(share, log)
		fair := log >= 5 && log <= 9 && len(b) <= 256 && sum == 1<<log
		if ok != fair || (table != nil) != fair {
			t.Fatal(share, log, ok)
		}
		table.Cell(state)
		table.Next(state, more)
		table.Back(state, uint8(more))
		if fair {
			whole(t, share, log)
			return
		}
		nothing(t, table)
	})
}
