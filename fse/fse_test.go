package fse

import (
	"bytes"
	"math"
	"slices"
	"testing"

	"pemmican/spread"
)

// wrong are the numbers of symbols that Decode doesn't do.
var wrong = []int{-1, -2, math.MinInt32, math.MinInt, 1<<20 + 1, 1 << 21, 1 << 31, 1 << 32, 1<<32 + 1, math.MaxInt}

// codes are lists of symbols, their bits without the seal, and their codes, worked out beside the program.
var codes = []struct {
	share   []int
	log     int
	symbols []byte
	bits    int
	text    string
}{
	{[]int{24, 8}, 5, nil, 5, "\x20"},
	{[]int{24, 8}, 5, []byte{0}, 5, "\x2b"},
	{[]int{24, 8}, 5, []byte{1}, 7, "\x90"},
	{[]int{24, 8}, 5, []byte{0, 1}, 7, "\xc0"},
	{[]int{24, 8}, 5, []byte{1, 0}, 7, "\xa7"},
	{[]int{24, 8}, 5, []byte{0, 0, 1, 0}, 8, "\x1f\x01"},
	{[]int{24, 8}, 5, []byte{1, 1, 1, 1, 1, 1}, 17, "\x40\x95\x02"},
	{[]int{24, 8}, 5, make([]byte, 20), 13, "\xff\x20"},
	{[]int{10, 0, 3, 19}, 5, []byte{3, 2, 0, 3}, 11, "\xaa\x0c"},
	{[]int{10, 0, 3, 19}, 5, []byte{2, 2, 2}, 15, "\x20\xd3"},
	{[]int{0, 1, 30, 1, 0}, 5, []byte{1, 3, 2, 1}, 20, "\x60\x24\x10"},
	{[]int{32}, 5, make([]byte, 9), 5, "\x20"},
	{[]int{64}, 6, []byte{0}, 6, "\x40"},
	{repeat(1, 32), 5, []byte{31, 0, 7}, 20, "\x20\x80\x14"},
	{repeat(1, 128), 7, []byte{127, 1, 64}, 28, "\x00\xe0\xb4\x15"},
	{repeat(1, 256), 8, []byte{255, 0}, 24, "\x00\x00\x5d\x01"},
	{repeat(2, 256), 9, []byte{255, 0, 128}, 33, "\x00\x43\x00\xbd\x02"},
}

// A dice gives the same numbers in every run.
type dice uint64

func (d *dice) next() int {
	*d = *d*6364136223846793005 + 1442695040888963407
	return int(*d >> 33)
}

// share makes a fair share of n numbers, many small ones and few great ones.
func (d *dice) share(n, log int) []int {
	l := make([]int, n)
	rest := 1 << log
	for rest > 0 {
		more := min(rest, 1+d.next()%(1+d.next()%rest))
		l[d.next()%n] += more
		rest -= more
	}
	return l
}

// symbols makes a list of n symbols that have a share.
func (d *dice) symbols(share []int, n int) []byte {
	var all []byte
	for symbol, s := range share {
		if s > 0 {
			all = append(all, byte(symbol))
		}
	}
	l := make([]byte, n)
	for i := range l {
		l[i] = all[d.next()%len(all)]
	}
	return l
}

// repeat makes a list of n times v.
func repeat(v, n int) []int {
	return slices.Repeat([]int{v}, n)
}

// build answers a share's table, and fails if there is none.
func build(t *testing.T, share []int, log int) *spread.Table {
	t.Helper()
	table, ok := spread.Build(share, log)
	if !ok {
		t.Fatalf("Build(%v, %d)", share, log)
	}
	return table
}

// number answers the lowest n bits of v, the lowest one first.
func number(v, n int) []bool {
	l := make([]bool, n)
	for i := range l {
		l[i] = v>>i&1 == 1
	}
	return l
}

// coded tells the symbols' bits by another way: each state ahead is looked for among all cells.
func coded(t *testing.T, table *spread.Table, symbols []byte) []bool {
	t.Helper()
	var l []bool
	state := 0
	for i := len(symbols) - 1; i >= 0; i-- {
		found := 0
		now := state
		for at := range table.Size() {
			c, _ := table.Cell(at)
			if more := now - c.Base; c.Symbol == symbols[i] && more >= 0 && more < 1<<c.Bits {
				l = append(l, number(more, c.Bits)...)
				state = at
				found++
			}
		}
		if found != 1 {
			t.Fatalf("%d ways back from %d by %d", found, now, symbols[i])
		}
	}
	return append(l, number(state, table.Log())...)
}

// sealed tells the bytes of l and a 1 behind, bit by bit.
func sealed(l []bool) []byte {
	b := make([]byte, len(l)/8+1)
	for i, one := range append(slices.Clone(l), true) {
		if one {
			b[i/8] |= 1 << (i % 8)
		}
	}
	return b
}

// encode fails if the symbols aren't coded by just these bytes, and these bits.
func encode(t *testing.T, table *spread.Table, symbols, want []byte, n int) {
	t.Helper()
	if b, ok := Encode(table, symbols); !ok || !bytes.Equal(b, want) {
		t.Fatalf("Encode of %d symbols: %x, %v, not %x", len(symbols), b, ok, want)
	}
	if got, ok := Bits(table, symbols); !ok || got != n {
		t.Fatalf("Bits of %d symbols: %d, %v, not %d", len(symbols), got, ok, n)
	}
}

// noCode fails if the symbols are coded.
func noCode(t *testing.T, table *spread.Table, symbols []byte) {
	t.Helper()
	if b, ok := Encode(table, symbols); ok || len(b) != 0 {
		t.Fatalf("Encode(%v): %x, %v", symbols, b, ok)
	}
	if n, ok := Bits(table, symbols); ok || n != 0 {
		t.Fatalf("Bits(%v): %d, %v", symbols, n, ok)
	}
}

// decode fails if b isn't the code of just these symbols.
func decode(t *testing.T, table *spread.Table, b, want []byte) {
	t.Helper()
	if got, ok := Decode(table, b, len(want)); !ok || !bytes.Equal(got, want) {
		t.Fatalf("Decode of %d symbols of %d bytes: %v", len(want), len(b), ok)
	}
}

// noSymbols fails if b is read as the code of n symbols.
func noSymbols(t *testing.T, table *spread.Table, b []byte, n int) {
	t.Helper()
	if got, ok := Decode(table, b, n); ok || len(got) != 0 {
		t.Fatalf("Decode(%x, %d): %v, %v", b, n, got, ok)
	}
}

// whole fails if the symbols aren't coded as the model has it, or aren't read again.
func whole(t *testing.T, table *spread.Table, symbols []byte) {
	t.Helper()
	l := coded(t, table, symbols)
	b := sealed(l)
	encode(t, table, symbols, b, len(l))
	decode(t, table, b, symbols)
}

// lists answers all lists of n of these symbols.
func lists(symbols []byte, n int) [][]byte {
	if n == 0 {
		return [][]byte{{}}
	}
	var all [][]byte
	for _, l := range lists(symbols, n-1) {
		for _, symbol := range symbols {
			all = append(all, append(slices.Clone(l), symbol))
		}
	}
	return all
}

func TestExample(t *testing.T) {
	for log, want := range map[int]string{5: "\x20", 6: "\x40", 7: "\x80", 8: "\x00\x01", 9: "\x00\x02"} {
		for _, share := range [][]int{{1 << log}, {1<<log - 3, 0, 3}} {
			table := build(t, share, log)
			for _, none := range [][]byte{nil, {}} {
				encode(t, table, none, []byte(want), log)
			}
			decode(t, table, []byte(want), nil)
		}
	}
}

func TestCodes(t *testing.T) {
	for _, c := range codes {
		table := build(t, c.share, c.log)
		encode(t, table, c.symbols, []byte(c.text), c.bits)
		decode(t, table, []byte(c.text), c.symbols)
	}
}

func TestEachShortList(t *testing.T) {
	for _, c := range []struct {
		share   []int
		symbols []byte
		most    int
	}{
		{[]int{24, 8}, []byte{0, 1}, 8},
		{[]int{1, 31}, []byte{0, 1}, 8},
		{[]int{16, 0, 16}, []byte{0, 2}, 8},
		{[]int{10, 0, 3, 19}, []byte{0, 2, 3}, 5},
		{repeat(8, 4), []byte{0, 1, 2, 3}, 4},
		{repeat(1, 32), []byte{0, 5, 30, 31}, 4},
	} {
		table := build(t, c.share, 5)
		for n := range c.most + 1 {
			for _, l := range lists(c.symbols, n) {
				whole(t, table, l)
			}
		}
	}
}

func TestEachShortTextIsACodeOrNone(t *testing.T) {
	for _, share := range [][]int{{24, 8}, {31, 1}, {16, 16}, {5, 27}} {
		table := build(t, share, 5)
		for n := range 6 {
			all := make(map[string][]byte)
			for _, l := range lists([]byte{0, 1}, n) {
				all[string(sealed(coded(t, table, l)))] = l
			}
			if len(all) != 1<<n {
				t.Fatalf("%d codes of %d symbols", len(all), n)
			}
			for i := range 1 << 16 {
				for _, b := range [][]byte{{byte(i), byte(i >> 8)}, {byte(i)}} {
					if l, is := all[string(b)]; is {
						decode(t, table, b, l)
						continue
					}
					noSymbols(t, table, b, n)
				}
			}
		}
	}
}

func TestAnyTable(t *testing.T) {
	d := dice(7)
	for range 40 {
		for log := 5; log <= 9; log++ {
			for _, n := range []int{1 + d.next()%6, 1 + d.next()%256} {
				share := d.share(n, log)
				table := build(t, share, log)
				whole(t, table, d.symbols(share, d.next()%50))
			}
		}
	}
}

func TestEachSymbolAlone(t *testing.T) {
	for log, share := range map[int][]int{8: repeat(1, 256), 9: append(repeat(1, 255), 257)} {
		table := build(t, share, log)
		for symbol := range 256 {
			whole(t, table, []byte{byte(symbol)})
			whole(t, table, []byte{byte(symbol), 255})
			whole(t, table, []byte{0, byte(symbol)})
		}
	}
}

func TestOneSymbolHasNoBits(t *testing.T) {
	for log := 5; log <= 9; log++ {
		for _, symbol := range []int{0, 1, 255} {
			table := build(t, append(make([]int, symbol), 1<<log), log)
			want := sealed(make([]bool, log))
			for _, n := range []int{0, 1, 2, 1000, 1<<20 - 1, 1 << 20} {
				l := bytes.Repeat([]byte{byte(symbol)}, n)
				encode(t, table, l, want, log)
				decode(t, table, want, l)
			}
			// Each state but 0 stays: at its end it isn't 0.
			for state := 1; state < 1<<log; state++ {
				noSymbols(t, table, sealed(number(state, log)), 0)
				noSymbols(t, table, sealed(number(state, log)), 3)
			}
		}
	}
}

func TestNoTable(t *testing.T) {
	for _, table := range []*spread.Table{nil, {}} {
		for _, l := range [][]byte{nil, {}, {0}, {255}, {0, 1, 2}} {
			noCode(t, table, l)
		}
		for _, b := range [][]byte{nil, {}, {0}, {1}, {0x20}, {0x2b}, {0, 1}, {0xFF, 0xFF, 0xFF}} {
			for _, n := range append([]int{0, 1, 2, 1 << 20}, wrong...) {
				noSymbols(t, table, b, n)
			}
		}
	}
}

func TestSymbolWithoutShare(t *testing.T) {
	table := build(t, []int{10, 0, 3, 19, 0}, 5)
	for _, symbol := range []byte{1, 4, 5, 6, 31, 32, 128, 254, 255} {
		for _, l := range [][]byte{{symbol}, {symbol, 0}, {0, symbol}, {0, 2, symbol, 3, 3}, {symbol, symbol}} {
			noCode(t, table, l)
		}
	}
	whole(t, table, []byte{0, 2, 3, 3})
	whole(t, build(t, []int{0, 32}, 5), []byte{1})
	noCode(t, build(t, []int{0, 32}, 5), []byte{0})
}

func TestNumbersOfSymbolsThatMayNotBe(t *testing.T) {
	one := build(t, []int{32}, 5)
	two := build(t, []int{24, 8}, 5)
	for _, n := range wrong {
		noSymbols(t, one, []byte{0x20}, n)
		noSymbols(t, two, []byte{0x20}, n)
		noSymbols(t, two, []byte{0x1f, 1}, n)
		noSymbols(t, one, nil, n)
	}
}

func TestOtherNumbersOfSymbols(t *testing.T) {
	d := dice(71)
	table := build(t, []int{9, 8, 7, 5, 3}, 5)
	for n := range 30 {
		// Each cell of this table asks for a bit at least, so that 2^20 symbols aren't there.
		b, _ := Encode(table, d.symbols([]int{1, 1, 1, 1, 1}, n))
		for other := range 40 {
			l, ok := Decode(table, b, other)
			if !ok && len(l) != 0 || ok && len(l) != other {
				t.Fatal(n, other, l, ok)
			}
			if ok {
				encode(t, table, l, b, len(coded(t, table, l)))
			}
		}
		noSymbols(t, table, b, 1<<20)
	}
	b := []byte(codes[5].text)
	for n := range 10 {
		if n != len(codes[5].symbols) {
			noSymbols(t, build(t, codes[5].share, 5), b, n)
		}
	}
}

func TestNotSealed(t *testing.T) {
	for _, c := range codes {
		table := build(t, c.share, c.log)
		for _, b := range [][]byte{nil, {}, {0}, {0, 0, 0, 0, 0, 0}, []byte(c.text + "\x00")} {
			for n := range 12 {
				noSymbols(t, table, b, n)
			}
			noSymbols(t, table, b, 1<<20)
		}
	}
}

func TestTooFewBitsAndSomeLeft(t *testing.T) {
	for _, c := range codes {
		table := build(t, c.share, c.log)
		l := coded(t, table, c.symbols)
		n := len(c.symbols)
		for cut := 1; cut <= len(l); cut++ {
			// The first bits are read last: without some of them all goes well up to there.
			noSymbols(t, table, sealed(l[cut:]), n)
		}
		for more := 1; more < 40; more++ {
			noSymbols(t, table, sealed(append(make([]bool, more), l...)), n)
		}
	}
}

func TestFewerBitsThanAState(t *testing.T) {
	for log := 5; log <= 9; log++ {
		for _, share := range [][]int{{1 << log}, {1<<log - 1, 1}} {
			for n := range log {
				noSymbols(t, build(t, share, log), sealed(make([]bool, n)), 0)
				noSymbols(t, build(t, share, log), sealed(make([]bool, n)), 1)
			}
		}
	}
}

func TestOtherEndThanStateNought(t *testing.T) {
	d := dice(72)
	for range 300 {
		log := 5 + d.next()%5
		share := d.share(2+d.next()%20, log)
		table := build(t, share, log)
		l := coded(t, table, d.symbols(share, 1+d.next()%20))
		// Another way from some state, of just as many bits: read as symbols only if it comes to 0.
		l[d.next()%len(l)] = d.next()%2 == 0
		b := sealed(l)
		for n := range 22 {
			if got, ok := Decode(table, b, n); ok {
				encode(t, table, got, b, len(l))
			}
		}
	}
	for state := 1; state < 32; state++ {
		noSymbols(t, build(t, []int{24, 8}, 5), sealed(number(state, 5)), 0)
	}
}

func TestManySymbols(t *testing.T) {
	d := dice(73)
	share := []int{300, 100, 0, 60, 51, 1}
	table := build(t, share, 9)
	l := d.symbols(share, 1<<20)
	b, ok := Encode(table, l)
	if !ok {
		t.Fatal("not coded")
	}
	n, ok := Bits(table, l)
	if !ok || len(b) != n/8+1 || b[n/8]>>(n%8) != 1 {
		t.Fatal(n, ok, len(b))
	}
	decode(t, table, b, l)
	l = append(l, 0)
	if b, ok = Encode(table, l); !ok {
		t.Fatal("not coded")
	}
	noSymbols(t, table, b, len(l))
}

func TestNothingIsChangedOrKept(t *testing.T) {
	c := codes[5]
	table := build(t, c.share, c.log)
	symbols := slices.Clone(c.symbols)
	b, _ := Encode(table, symbols)
	Bits(table, symbols)
	if !bytes.Equal(symbols, c.symbols) {
		t.Fatal(symbols)
	}
	clear(symbols)
	if string(b) != c.text {
		t.Fatalf("%x", b)
	}
	got, _ := Decode(table, b, len(c.symbols))
	if string(b) != c.text {
		t.Fatalf("%x", b)
	}
	clear(b)
	if !bytes.Equal(got, c.symbols) {
		t.Fatal(got)
	}
}

func TestAnswersAreNewMemory(t *testing.T) {
	for _, c := range codes {
		table := build(t, c.share, c.log)
		b, _ := Encode(table, c.symbols)
		got, _ := Decode(table, b, len(c.symbols))
		for i := range b {
			b[i] = 0xAA
		}
		for i := range got {
			got[i] = 0xAA
		}
		_, _ = append(b, 0xAA), append(got, 0xAA)
		encode(t, table, c.symbols, []byte(c.text), c.bits)
		decode(t, table, []byte(c.text), c.symbols)
	}
}

func TestRefusedCallsLeaveTheTable(t *testing.T) {
	table := build(t, []int{24, 8}, 5)
	for range 3 {
		noCode(t, table, []byte{0, 1, 2, 1})
		noSymbols(t, table, []byte{0xFF, 0xFF, 0xFF}, 2)
		noSymbols(t, table, nil, 2)
		whole(t, table, []byte{0, 1, 1, 0})
	}
}

func FuzzCode(f *testing.F) {
	f.Add([]byte{24, 8}, 5, []byte{0, 0, 1, 0}, 4)
	f.Add([]byte{24, 8}, 5, []byte("\x1f\x01"), 4)
	f.Add([]byte{32}, 5, []byte{0x20}, 1<<20)
	f.Add([]byte{200, 56}, 8, []byte{}, -1)
	f.Add([]byte{}, 5, []byte{0x20}, 0)
	f.Fuzz(func(t *testing.T, shares []byte, log int, text []byte, n int) {
		share := make([]int, len(shares))
		for i, c := range shares {
			share[i] = int(c)
		}
		table, ok := spread.Build(share, log)
		if got, is := Decode(table, text, n); is {
			encode(t, table, got, text, len(coded(t, table, got)))
		}
		for _, symbol := range text {
			ok = ok && int(symbol) < len(share) && share[symbol] > 0
		}
		if !ok {
			noCode(t, table, text)
			return
		}
		whole(t, table, text)
	})
}
