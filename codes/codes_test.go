package codes

import (
	"math"
	"strconv"
	"testing"
)

// noNumbers have no code.
var noNumbers = []int{-1, -2, -16, -65536, math.MinInt32, math.MinInt, math.MinInt + 1, 65536, 65537, 1 << 17, math.MaxInt32, 1 << 31, 1 << 32, 1<<32 + 20, 1 << 48, math.MaxInt - 1, math.MaxInt}

// coded were worked out beside the program.
var coded = []struct {
	v    int
	code uint8
	more int
	n    int
}{
	{0, 0, 0, 0},
	{1, 1, 0, 0},
	{2, 2, 0, 0},
	{7, 7, 0, 0},
	{14, 14, 0, 0},
	{15, 15, 0, 0},
	{16, 16, 0, 4},
	{17, 16, 1, 4},
	{20, 16, 4, 4},
	{31, 16, 15, 4},
	{32, 17, 0, 5},
	{63, 17, 31, 5},
	{64, 18, 0, 6},
	{100, 18, 36, 6},
	{127, 18, 63, 6},
	{128, 19, 0, 7},
	{255, 19, 127, 7},
	{256, 20, 0, 8},
	{511, 20, 255, 8},
	{512, 21, 0, 9},
	{1000, 21, 488, 9},
	{1023, 21, 511, 9},
	{1024, 22, 0, 10},
	{2047, 22, 1023, 10},
	{2048, 23, 0, 11},
	{4095, 23, 2047, 11},
	{4096, 24, 0, 12},
	{8191, 24, 4095, 12},
	{8192, 25, 0, 13},
	{10000, 25, 1808, 13},
	{16383, 25, 8191, 13},
	{16384, 26, 0, 14},
	{32767, 26, 16383, 14},
	{32768, 27, 0, 15},
	{65533, 27, 32765, 15},
	{65535, 27, 32767, 15},
}

// isCode fails if Code doesn't answer this.
func isCode(t *testing.T, v int, code uint8, more, n int) {
	t.Helper()
	if c, m, k, ok := Code(v); c != code || m != more || k != n || !ok {
		t.Fatalf("Code(%d): %d, %d, %d, %v, and not %d, %d, %d, true", v, c, m, k, ok, code, more, n)
	}
}

// isValue fails if Value doesn't answer this number.
func isValue(t *testing.T, code uint8, more uint32, v int) {
	t.Helper()
	if got, ok := Value(code, more); got != v || !ok {
		t.Fatalf("Value(%d, %d): %d, %v, and not %d, true", code, more, got, ok, v)
	}
}

// noValue fails if Value answers a number.
func noValue(t *testing.T, code uint8, more uint32) {
	t.Helper()
	if v, ok := Value(code, more); v != 0 || ok {
		t.Fatalf("Value(%d, %d): %d, %v, and not 0, false", code, more, v, ok)
	}
}

func TestExample(t *testing.T) {
	isCode(t, 20, 16, 4, 4)
}

func TestCodesWorkedOut(t *testing.T) {
	for _, c := range coded {
		isCode(t, c.v, c.code, c.more, c.n)
		isValue(t, c.code, uint32(c.more), c.v)
		if n, ok := Extra(c.code); n != c.n || !ok {
			t.Errorf("Extra(%d): %d, %v", c.code, n, ok)
		}
	}
}

// The bits behind a code are the number's digits by twos, without the first one.
func TestEachNumber(t *testing.T) {
	for v := range 1 << 16 {
		code, more, n := v, int64(0), 0
		if v >= 16 {
			digits := strconv.FormatInt(int64(v), 2)
			code = 11 + len(digits)
			n = len(digits) - 1
			more, _ = strconv.ParseInt(digits[1:], 2, 64)
		}
		isCode(t, v, uint8(code), int(more), n)
		isValue(t, uint8(code), uint32(more), v)
	}
}

func TestNoNumbers(t *testing.T) {
	for _, v := range noNumbers {
		if c, m, n, ok := Code(v); c != 0 || m != 0 || n != 0 || ok {
			t.Errorf("Code(%d): %d, %d, %d, %v", v, c, m, n, ok)
		}
	}
}

func TestExtraOfEachCode(t *testing.T) {
	for c := range 256 {
		want := 0
		if c >= 16 && c < 28 {
			want = c - 12
		}
		if n, ok := Extra(uint8(c)); n != want || ok != (c < 28) {
			t.Errorf("Extra(%d): %d, %v", c, n, ok)
		}
	}
}

// Each code has as many numbers as there are bits for, and each number one code alone.
func TestEachCodeWithEachBits(t *testing.T) {
	next := 0
	for c := range 28 {
		n, _ := Extra(uint8(c))
		for more := range uint32(1) << 17 {
			if more >= 1<<n {
				noValue(t, uint8(c), more)
				continue
			}
			isValue(t, uint8(c), more, next)
			isCode(t, next, uint8(c), int(more), n)
			next++
		}
	}
	if next != 1<<16 {
		t.Error(next)
	}
}

func TestValueOfTooManyBits(t *testing.T) {
	for c := range 28 {
		n, _ := Extra(uint8(c))
		for w := n; w < 32; w++ {
			least := uint32(1) << w
			for _, more := range []uint32{least, least | 1, least | least>>1, least | (least - 1)} {
				noValue(t, uint8(c), more)
			}
		}
	}
}

func TestValueOfNoCode(t *testing.T) {
	for c := 28; c < 256; c++ {
		for w := range 33 {
			noValue(t, uint8(c), uint32(1)<<w)
			noValue(t, uint8(c), uint32(1)<<w-1)
		}
	}
}

func FuzzCode(f *testing.F) {
	f.Add(20, uint8(16), uint32(4))
	f.Add(-1, uint8(28), uint32(0))
	f.Fuzz(func(t *testing.T, v int, code uint8, more uint32) {
		c, m, n, ok := Code(v)
		if ok != (v >= 0 && v < 1<<16) || !ok && (c != 0 || m != 0 || n != 0) {
			t.Fatal(v, c, m, n, ok)
		}
		if ok {
			isValue(t, c, uint32(m), v)
		}
		if v, ok := Value(code, more); ok {
			n, _ := Extra(code)
			isCode(t, v, code, int(more), n)
		}
	})
}
