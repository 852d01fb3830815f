package header

import (
	"bytes"
	"math"
	"slices"
	"strconv"
	"testing"

	"pemmican/bits"
)

// unfair are shares, and logs, that have no bits.
var unfair = []struct {
	share []int
	log   int
}{
	{nil, 5},
	{[]int{}, 5},
	{nil, 0},
	{[]int{0}, 5},
	{[]int{0, 0, 0}, 9},
	{[]int{31}, 5},
	{[]int{33}, 5},
	{[]int{24, 7}, 5},
	{[]int{24, 9}, 5},
	{[]int{24, 8, 1}, 5},
	{[]int{24, 8}, 6},
	{[]int{32}, 6},
	{[]int{64}, 5},
	{[]int{-1, 33}, 5},
	{[]int{33, -1}, 5},
	{[]int{32, -1, 1}, 5},
	{[]int{32, 0, -1}, 5},
	{[]int{1<<32 + 32}, 5},
	{[]int{math.MaxInt, math.MaxInt, 34}, 5},
	{[]int{math.MinInt, math.MinInt, 32}, 5},
	{append([]int{32}, make([]int, 256)...), 5},
	{append(make([]int, 256), 32), 5},
	{repeat(1, 512), 9},
	{[]int{1}, 0},
	{[]int{16}, 4},
	{[]int{1024}, 10},
	{[]int{4096}, 12},
	{[]int{1}, -1},
	{[]int{1}, 64},
	{[]int{32}, 5 + 1<<32},
	{[]int{32}, math.MinInt},
	{[]int{32}, math.MaxInt},
}

// headers are shares, how many bits they have, and these as bytes, worked out beside the program.
var headers = []struct {
	share []int
	log   int
	size  int
	text  string
}{
	{[]int{24, 8}, 5, 13, "\xc0\x10"},
	{[]int{24, 8, 0, 0}, 5, 13, "\xc0\x10"},
	{[]int{8, 24}, 5, 14, "\x40\x30"},
	{[]int{32}, 5, 9, "\x00\x01"},
	{append([]int{32}, make([]int, 255)...), 5, 9, "\x00\x01"},
	{[]int{0, 32}, 5, 15, "\x00\x40"},
	{[]int{0, 32, 0}, 5, 15, "\x00\x40"},
	{[]int{0, 0, 0, 32}, 5, 27, "\x00\x00\x00\x04"},
	{[]int{1, 31}, 5, 14, "\x08\x3e"},
	{[]int{31, 1}, 5, 10, "\xf8\x02"},
	{[]int{1, 0, 0, 31}, 5, 24, "\x08\x00\xf8"},
	{[]int{16, 16}, 5, 14, "\x80\x20"},
	{[]int{10, 0, 3, 19}, 5, 24, "\x50\xc0\x98"},
	{repeat(1, 32), 5, 138, "\x08\x42\x08\x21\x84\x10\x42\x08\x21\x84\x10\x22\x22\x22\x22\x92\xa4\x02"},
	{[]int{64}, 6, 10, "\x01\x02"},
	{[]int{128}, 7, 11, "\x02\x04"},
	{[]int{256}, 8, 12, "\x03\x08"},
	{[]int{255, 0, 1}, 8, 14, "\xfb\x27"},
	{[]int{512}, 9, 13, "\x04\x10"},
	{[]int{511, 1}, 9, 14, "\xfc\x2f"},
	{[]int{0, 0, 512}, 9, 33, "\x04\x00\x00\x00\x01"},
	{[]int{300, 100, 0, 60, 51, 1}, 9, 42, "\x64\x89\x0c\xc0\x9b\x03"},
}

// A dice gives the same numbers in every run.
type dice uint64

func (d *dice) next() int {
	*d = *d*6364136223846793005 + 1442695040888963407
	return int(*d >> 33)
}

// share makes a fair share of n numbers, many small ones and few great ones.
func (d *dice) share(n, log int) []int {
	l := make([]int, n)
	rest := 1 << log
	for rest > 0 {
		more := min(rest, 1+d.next()%(1+d.next()%rest))
		l[d.next()%n] += more
		rest -= more
	}
	return l
}

// repeat makes a list of n times v.
func repeat(v, n int) []int {
	return slices.Repeat([]int{v}, n)
}

// number answers the lowest n bits of v, the lowest one first.
func number(v, n int) []bool {
	l := make([]bool, n)
	for i := range l {
		l[i] = v>>i&1 == 1
	}
	return l
}

// value tells the number that the bits of l are.
func value(l []bool) int {
	v := 0
	for i, one := range l {
		if one {
			v += 1 << i
		}
	}
	return v
}

// digits tells how many digits of base 2 v is written with.
func digits(v int) int {
	return len(strconv.FormatInt(int64(v), 2))
}

// cut answers a share without noughts at its end.
func cut(share []int) []int {
	n := len(share)
	for share[n-1] == 0 {
		n--
	}
	return slices.Clone(share[:n])
}

// model tells a fair share's bits by another way: of each number, what the numbers from it on sum to.
func model(share []int, log int) []bool {
	l := number(log-5, 3)
	share = cut(share)
	for i, n := range share {
		sum := 0
		for _, m := range share[i:] {
			sum += m
		}
		l = append(l, number(n, digits(sum))...)
	}
	return l
}

// read tells the share that l begins with, its log, and how many bits it has; 0 bits if there is none.
func read(l []bool) ([]int, int, int) {
	if len(l) < 3 || value(l[:3]) > 4 {
		return nil, 0, 0
	}
	var share []int
	log, at := 5+value(l[:3]), 3
	for rest := 1 << log; rest > 0; rest -= share[len(share)-1] {
		to := at + digits(rest)
		if len(share) == 256 || to > len(l) || value(l[at:to]) > rest {
			return nil, 0, 0
		}
		share = append(share, value(l[at:to]))
		at = to
	}
	return share, log, at
}

// pack tells the bytes of l.
func pack(l []bool) []byte {
	b := make([]byte, (len(l)+7)/8)
	for i, one := range l {
		if one {
			b[i/8] |= 1 << (i % 8)
		}
	}
	return b
}

// unpack tells the bits of b.
func unpack(b []byte) []bool {
	l := make([]bool, 8*len(b))
	for i := range l {
		l[i] = b[i/8]>>(i%8)&1 == 1
	}
	return l
}

// writer makes a writer of the bits of l.
func writer(l []bool) *bits.Writer {
	var w bits.Writer
	for _, one := range l {
		w.Put(uint32(value([]bool{one})), 1)
	}
	return &w
}

// has fails if w hasn't just the bits of l.
func has(t *testing.T, w *bits.Writer, l []bool) {
	t.Helper()
	if w.Len() != len(l) || !bytes.Equal(w.Bytes(), pack(l)) {
		t.Fatalf("%d bits, %x, not %d, %x", w.Len(), w.Bytes(), len(l), pack(l))
	}
}

// put fails if the share hasn't just the bits of l, behind those of ahead.
func put(t *testing.T, ahead []bool, share []int, log int, l []bool) {
	t.Helper()
	w := writer(ahead)
	if !Put(w, share, log) {
		t.Fatalf("Put(%v, %d) is refused", share, log)
	}
	has(t, w, slices.Concat(ahead, l))
	if n := Size(share, log); n != len(l) {
		t.Fatalf("Size(%v, %d): %d, not %d", share, log, n, len(l))
	}
}

// none fails if the share has any bits.
func none(t *testing.T, ahead []bool, share []int, log int) {
	t.Helper()
	w := writer(ahead)
	if Put(w, share, log) {
		t.Fatalf("Put(%v, %d)", share, log)
	}
	has(t, w, ahead)
	if n := Size(share, log); n != 0 {
		t.Fatalf("Size(%v, %d): %d", share, log, n)
	}
}

// take fails if not this share, without noughts at its end, comes next, or not so many bits are left behind it.
func take(t *testing.T, r *bits.Reader, share []int, log, left int) {
	t.Helper()
	got, by, ok := Take(r)
	if !ok || !slices.Equal(got, cut(share)) || by != log || r.Left() != left {
		t.Fatalf("Take: %v, %d, %v, not %v, %d; Left %d, not %d", got, by, ok, share, log, r.Left(), left)
	}
}

// noShare fails if a share comes next.
func noShare(t *testing.T, r *bits.Reader) {
	t.Helper()
	if share, log, ok := Take(r); ok || len(share) != 0 || log != 0 {
		t.Fatalf("Take: %v, %d, %v", share, log, ok)
	}
}

// whole fails if the share isn't put as the model has it, or isn't taken again.
func whole(t *testing.T, share []int, log int) {
	t.Helper()
	l := model(share, log)
	put(t, nil, share, log, l)
	b := pack(l)
	take(t, bits.NewReader(b), share, log, 8*len(b)-len(l))
}

// held fails if b isn't read as the model has it.
func held(t *testing.T, b []byte) {
	t.Helper()
	r := bits.NewReader(b)
	share, log, n := read(unpack(b))
	if n == 0 {
		noShare(t, r)
		return
	}
	take(t, r, share, log, 8*len(b)-n)
	put(t, nil, share, log, unpack(b)[:n])
}

func TestExample(t *testing.T) {
	l := slices.Concat(number(0, 3), number(24, 6), number(8, 4))
	put(t, nil, []int{24, 8}, 5, l)
	take(t, bits.NewReader(pack(l)), []int{24, 8}, 5, 3)
}

func TestHeaders(t *testing.T) {
	for _, h := range headers {
		put(t, nil, h.share, h.log, unpack([]byte(h.text))[:h.size])
		take(t, bits.NewReader([]byte(h.text)), h.share, h.log, 8*len(h.text)-h.size)
	}
}

func TestEachShareOfTwoOrThree(t *testing.T) {
	for log := 5; log <= 9; log++ {
		for n := range 1<<log + 1 {
			whole(t, []int{n, 1<<log - n}, log)
		}
	}
	for a := range 33 {
		for b := range 33 - a {
			whole(t, []int{a, b, 32 - a - b}, 5)
		}
	}
}

func TestAnyShare(t *testing.T) {
	d := dice(8)
	for range 60 {
		for log := 5; log <= 9; log++ {
			whole(t, d.share(1+d.next()%6, log), log)
			whole(t, d.share(1+d.next()%256, log), log)
			whole(t, d.share(256, log), log)
		}
	}
}

func TestNoughtsAtTheEndHaveNoBits(t *testing.T) {
	for _, h := range headers {
		share := cut(h.share)
		for _, n := range []int{1, 2, 100, 256 - len(share)} {
			put(t, nil, append(slices.Clone(share), make([]int, n)...), h.log, unpack([]byte(h.text))[:h.size])
		}
	}
}

func TestManySymbols(t *testing.T) {
	for log := 5; log <= 9; log++ {
		for _, at := range []int{0, 1, 7, 100, 254, 255} {
			share := make([]int, 256)
			share[at] = 1 << log
			whole(t, share, log)
			share[at] -= 2
			share[255]++
			share[128]++
			whole(t, share, log)
		}
	}
	whole(t, repeat(1, 256), 8)
	whole(t, repeat(2, 256), 9)
	whole(t, append(repeat(1, 255), 257), 9)
	whole(t, append([]int{257}, repeat(1, 255)...), 9)
}

func TestOneBehindTheOther(t *testing.T) {
	d := dice(81)
	for range 200 {
		var w bits.Writer
		var l []bool
		shares := make([][]int, 1+d.next()%8)
		for i := range shares {
			shares[i] = d.share(1+d.next()%20, 5+i%5)
			if !Put(&w, shares[i], 5+i%5) {
				t.Fatal(shares[i])
			}
			l = append(l, model(shares[i], 5+i%5)...)
			has(t, &w, l)
		}
		r := bits.NewReader(w.Bytes())
		left := r.Left()
		for i, share := range shares {
			left -= len(model(share, 5+i%5))
			take(t, r, share, 5+i%5, left)
		}
	}
}

func TestTakeOfPutAtEachPlace(t *testing.T) {
	for _, h := range headers {
		for at := range 70 {
			w := writer(number(0x2A5F0C3, at))
			Put(w, h.share, h.log)
			Put(w, []int{24, 8}, 5)
			w.Put(0x1FF, 9)
			r := bits.NewReader(w.Bytes())
			for range at {
				r.Take(1)
			}
			left := 8*len(w.Bytes()) - at
			take(t, r, h.share, h.log, left-h.size)
			take(t, r, []int{24, 8}, 5, left-h.size-13)
			if v, ok := r.Take(9); !ok || v != 0x1FF {
				t.Fatal(v, ok)
			}
		}
	}
}

func TestUnfair(t *testing.T) {
	for _, u := range unfair {
		for _, ahead := range [][]bool{nil, number(5, 3), number(0, 64), make([]bool, 100)} {
			none(t, ahead, u.share, u.log)
		}
	}
	for log := 5; log <= 9; log++ {
		for _, h := range headers {
			if log != h.log {
				none(t, nil, h.share, log)
			}
		}
	}
}

func TestRefusedPutLeavesTheWriter(t *testing.T) {
	var w bits.Writer
	var l []bool
	for _, u := range unfair {
		if Put(&w, u.share, u.log) {
			t.Fatal(u)
		}
		has(t, &w, l)
		if !Put(&w, []int{10, 0, 3, 19}, 5) {
			t.Fatal("refused")
		}
		l = append(l, model([]int{10, 0, 3, 19}, 5)...)
		has(t, &w, l)
	}
}

func TestNil(t *testing.T) {
	for _, h := range headers {
		if Put(nil, h.share, h.log) {
			t.Fatal(h)
		}
	}
	for _, u := range unfair {
		if Put(nil, u.share, u.log) {
			t.Fatal(u)
		}
	}
	noShare(t, nil)
	noShare(t, nil)
}

func TestNoBits(t *testing.T) {
	var zero bits.Reader
	for _, r := range []*bits.Reader{&zero, bits.NewReader(nil), bits.NewReader([]byte{})} {
		noShare(t, r)
	}
	r := bits.NewReader([]byte("\xc0\x10"))
	take(t, r, []int{24, 8}, 5, 3)
	// Three bits of log 5 are left, and no number.
	noShare(t, r)
	noShare(t, r)
}

func TestLogAboveTheMost(t *testing.T) {
	for v := range 8 {
		for _, rest := range [][]bool{nil, make([]bool, 3000), number(1<<(v+5), 3000), number(-1, 3000)} {
			l := append(number(v, 3), rest...)
			held(t, pack(l))
			if v > 4 {
				noShare(t, bits.NewReader(pack(l)))
			}
		}
		// So would it be read, if there were such a log.
		l := append(number(v, 3), number(1<<(v+5), v+6)...)
		if v > 4 {
			noShare(t, bits.NewReader(pack(l)))
			continue
		}
		take(t, bits.NewReader(pack(l)), []int{1 << (v + 5)}, v+5, 8*len(pack(l))-len(l))
	}
}

func TestNumberAboveTheRest(t *testing.T) {
	for log := 5; log <= 9; log++ {
		size := 1 << log
		for _, n := range []int{size + 1, size + 2, size + size/2, 2*size - 1} {
			l := append(number(log-5, 3), number(n, log+1)...)
			noShare(t, bits.NewReader(pack(append(l, number(-1, 200)...))))
			noShare(t, bits.NewReader(pack(append(l, make([]bool, 3000)...))))
		}
		for first := 1; first < size; first++ {
			rest := size - first
			for n := rest + 1; n < 1<<digits(rest); n++ {
				l := slices.Concat(number(log-5, 3), number(first, log+1), number(n, digits(rest)), make([]bool, 50))
				noShare(t, bits.NewReader(pack(l)))
			}
		}
	}
}

func TestNoMoreBits(t *testing.T) {
	for _, h := range headers {
		b := []byte(h.text)
		for n := range b {
			noShare(t, bits.NewReader(b[:n]))
		}
		l := unpack(b)[:h.size]
		for n := range h.size {
			// The reader's bits come in bytes: those that are too many stand ahead, and are read.
			ahead := (8 - n%8) % 8
			r := bits.NewReader(pack(append(make([]bool, ahead), l[:n]...)))
			r.Take(ahead)
			noShare(t, r)
		}
	}
}

func TestTooManyNumbers(t *testing.T) {
	for log := 5; log <= 9; log++ {
		last := number(1<<log, log+1)
		for _, n := range []int{254, 255, 256, 257, 300} {
			l := slices.Concat(number(log-5, 3), make([]bool, n*(log+1)), last)
			r := bits.NewReader(pack(l))
			if n < 256 {
				take(t, r, append(make([]int, n), 1<<log), log, 8*len(pack(l))-len(l))
				continue
			}
			noShare(t, r)
		}
		noShare(t, bits.NewReader(pack(append(number(log-5, 3), make([]bool, 1<<16)...))))
	}
	// All 256 are above 0, and something is missing yet.
	l := number(4, 3)
	for i := range 256 {
		l = append(l, number(1, digits(512-i))...)
	}
	noShare(t, bits.NewReader(pack(append(l, number(256, 9)...))))
	noShare(t, bits.NewReader(pack(append(l, make([]bool, 500)...))))
}

func TestEachShortText(t *testing.T) {
	held(t, nil)
	for i := range 1 << 16 {
		held(t, []byte{byte(i)})
		held(t, []byte{byte(i), byte(i >> 8)})
		held(t, []byte{byte(i), byte(i >> 8), byte(i * 31), byte(i >> 5), 0x5A, 0x81})
	}
}

func TestAnyText(t *testing.T) {
	d := dice(82)
	for range 20000 {
		b := make([]byte, d.next()%40)
		for i := range b {
			b[i] = byte(d.next() & d.next())
		}
		held(t, b)
	}
}

func TestNothingIsChangedOrKept(t *testing.T) {
	for _, h := range headers {
		share := slices.Clone(h.share)
		var w bits.Writer
		Put(&w, share, h.log)
		Size(share, h.log)
		if !slices.Equal(share, h.share) {
			t.Fatal(share)
		}
		clear(share)
		has(t, &w, unpack([]byte(h.text))[:h.size])
	}
	for _, u := range unfair {
		share := slices.Clone(u.share)
		none(t, nil, share, u.log)
		if !slices.Equal(share, u.share) {
			t.Fatal(share)
		}
	}
}

func TestAnswersAreNewMemory(t *testing.T) {
	b := []byte("\x50\xc0\x98\x50\xc0\x98")
	r := bits.NewReader(b)
	first, _, _ := Take(r)
	want := slices.Clone(first)
	second, _, _ := Take(r)
	for i := range second {
		second[i] = -1
	}
	_ = append(second, -1)
	clear(b)
	if !slices.Equal(first, want) || !slices.Equal(want, []int{10, 0, 3, 19}) {
		t.Fatal(first, want)
	}
	for i := range first {
		first[i] = -1
	}
	take(t, bits.NewReader([]byte("\x50\xc0\x98")), want, 5, 0)
}

func FuzzTake(f *testing.F) {
	for _, h := range headers {
		f.Add([]byte(h.text))
	}
	f.Add([]byte{})
	f.Add([]byte("\x05\xff\xff"))
	f.Add(make([]byte, 300))
	f.Fuzz(func(t *testing.T, b []byte) {
		held(t, b)
	})
}

func FuzzPut(f *testing.F) {
	f.Add([]byte{24, 8}, 5, 0)
	f.Add([]byte{0, 200, 56}, 8, 3)
	f.Add([]byte{}, 5, 1)
	f.Add([]byte{32}, -1, 64)
	f.Fuzz(func(t *testing.T, numbers []byte, log, at int) {
		share := make([]int, len(numbers))
		sum := 0
		for i, c := range numbers {
			share[i] = int(c)
			sum += int(c)
		}
		ahead := make([]bool, uint(at)%100)
		if len(share) > 256 || log < 5 || log > 9 || sum != 1<<log {
			none(t, ahead, share, log)
			return
		}
		put(t, ahead, share, log, model(share, log))
		whole(t, share, log)
	})
}
