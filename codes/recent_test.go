package codes

import (
	"math"
	"slices"
	"testing"
)

// noOffsets have no number.
var noOffsets = []int{0, -1, -2, -3, -65533, math.MinInt32, math.MinInt, math.MinInt + 1, math.MinInt + 2, 65534, 65535, 65536, 65537, 1 << 20, math.MaxInt32, 1 << 32, 1<<32 + 1, math.MaxInt - 2, math.MaxInt - 1, math.MaxInt}

// A dice gives the same numbers in every run.
type dice uint64

func (d *dice) next() int {
	*d = *d*6364136223846793005 + 1442695040888963407
	return int(*d >> 33)
}

// numberByList goes through a list of the recent ones: what Number is held against.
func numberByList(r Recent, offset int) (int, Recent, bool) {
	if offset < 1 || offset > 65533 {
		return 0, r, false
	}
	number := offset + 2
	gone := 2
	for i := 2; i >= 0; i-- {
		if r[i] == offset {
			number, gone = i, i
		}
	}
	l := []int{offset}
	for i, o := range r {
		if i != gone {
			l = append(l, o)
		}
	}
	return number, Recent(l), true
}

// offsetBySearch looks for an offset that has the number: what Offset is held against.
func offsetBySearch(r Recent, number int) (int, Recent, bool) {
	for _, offset := range []int{r[0], r[1], r[2], number - 2} {
		if n, behind, ok := numberByList(r, offset); ok && n == number {
			return offset, behind, true
		}
	}
	return 0, r, false
}

// isNumber fails if r doesn't answer this number.
func isNumber(t *testing.T, r Recent, offset, number int, behind Recent) {
	t.Helper()
	if n, b, ok := r.Number(offset); n != number || b != behind || !ok {
		t.Fatalf("%v.Number(%d): %d, %v, %v, and not %d, %v, true", r, offset, n, b, ok, number, behind)
	}
}

// isOffset fails if r doesn't answer this offset.
func isOffset(t *testing.T, r Recent, number, offset int, behind Recent) {
	t.Helper()
	if o, b, ok := r.Offset(number); o != offset || b != behind || !ok {
		t.Fatalf("%v.Offset(%d): %d, %v, %v, and not %d, %v, true", r, number, o, b, ok, offset, behind)
	}
}

// noNumber fails if r answers a number.
func noNumber(t *testing.T, r Recent, offset int) {
	t.Helper()
	if n, b, ok := r.Number(offset); n != 0 || b != r || ok {
		t.Fatalf("%v.Number(%d): %d, %v, %v, and not 0, itself, false", r, offset, n, b, ok)
	}
}

// noOffset fails if r answers an offset.
func noOffset(t *testing.T, r Recent, number int) {
	t.Helper()
	if o, b, ok := r.Offset(number); o != 0 || b != r || ok {
		t.Fatalf("%v.Offset(%d): %d, %v, %v, and not 0, itself, false", r, number, o, b, ok)
	}
}

// holds holds both calls of r against the other ways to work them out.
func holds(t *testing.T, r Recent, n int) {
	t.Helper()
	if number, behind, ok := numberByList(r, n); ok {
		isNumber(t, r, n, number, behind)
		isOffset(t, r, number, n, behind)
	} else {
		noNumber(t, r, n)
	}
	if offset, behind, ok := offsetBySearch(r, n); ok {
		isOffset(t, r, n, offset, behind)
		isNumber(t, r, offset, n, behind)
	} else {
		noOffset(t, r, n)
	}
}

func TestFirst(t *testing.T) {
	r := First()
	if r != (Recent{1, 2, 4}) {
		t.Error(r)
	}
	r[0] = 9
	if r := First(); r != (Recent{1, 2, 4}) {
		t.Error("what was answered is kept", r)
	}
}

func TestNumbersWorkedOut(t *testing.T) {
	for _, c := range []struct {
		r              Recent
		offset, number int
		behind         Recent
	}{
		{Recent{1, 2, 4}, 1, 0, Recent{1, 2, 4}},
		{Recent{1, 2, 4}, 2, 1, Recent{2, 1, 4}},
		{Recent{1, 2, 4}, 4, 2, Recent{4, 1, 2}},
		{Recent{1, 2, 4}, 3, 5, Recent{3, 1, 2}},
		{Recent{1, 2, 4}, 5, 7, Recent{5, 1, 2}},
		{Recent{1, 2, 4}, 65532, 65534, Recent{65532, 1, 2}},
		{Recent{1, 2, 4}, 65533, 65535, Recent{65533, 1, 2}},
		{Recent{7, 8, 9}, 1, 3, Recent{1, 7, 8}},
		{Recent{7, 8, 9}, 2, 4, Recent{2, 7, 8}},
		{Recent{7, 8, 65533}, 65533, 2, Recent{65533, 7, 8}},
		// Some come more than once: the first one it is.
		{Recent{5, 5, 7}, 5, 0, Recent{5, 5, 7}},
		{Recent{5, 5, 7}, 7, 2, Recent{7, 5, 5}},
		{Recent{7, 5, 5}, 5, 1, Recent{5, 7, 5}},
		{Recent{5, 7, 5}, 5, 0, Recent{5, 7, 5}},
		{Recent{5, 5, 5}, 5, 0, Recent{5, 5, 5}},
		{Recent{5, 5, 5}, 6, 8, Recent{6, 5, 5}},
		// Some are no offsets.
		{Recent{}, 1, 3, Recent{1, 0, 0}},
		{Recent{-1, 3, 70000}, 3, 1, Recent{3, -1, 70000}},
		{Recent{-1, 70000, 3}, 3, 2, Recent{3, -1, 70000}},
		{Recent{math.MinInt, math.MaxInt, 0}, 9, 11, Recent{9, math.MinInt, math.MaxInt}},
	} {
		isNumber(t, c.r, c.offset, c.number, c.behind)
		isOffset(t, c.r, c.number, c.offset, c.behind)
	}
}

func TestOffsetsThatNoNumberIsOf(t *testing.T) {
	for _, c := range []struct {
		r       Recent
		numbers []int
	}{
		// Those that are recent have no other number.
		{Recent{1, 2, 4}, []int{3, 4, 6}},
		{Recent{7, 8, 65533}, []int{9, 10, 65535}},
		// One that comes more than once has the number of the first.
		{Recent{5, 5, 7}, []int{1, 7, 9}},
		{Recent{7, 5, 5}, []int{2, 7, 9}},
		{Recent{5, 7, 5}, []int{2, 7, 9}},
		{Recent{5, 5, 5}, []int{1, 2, 7}},
		// What is no offset has no number, wherever it stands.
		{Recent{}, []int{0, 1, 2}},
		{Recent{-1, 0, 65534}, []int{0, 1, 2}},
		{Recent{math.MinInt, math.MaxInt, 70000}, []int{0, 1, 2, 70002}},
		{Recent{3, 0, 4}, []int{1, 5, 6}},
	} {
		for _, n := range c.numbers {
			noOffset(t, c.r, n)
		}
	}
}

func TestWrongOffsetsAndNumbers(t *testing.T) {
	for _, r := range []Recent{First(), {}, {5, 5, 5}, {-1, 65534, 65536}, {65533, 65532, 65531}, {math.MinInt, -1, math.MaxInt}} {
		for _, n := range noOffsets {
			noNumber(t, r, n)
			noNumber(t, Recent{n, r[1], n}, n)
			noOffset(t, Recent{n, 1, 2}, 0)
			noOffset(t, Recent{1, n, 2}, 1)
			noOffset(t, Recent{1, 2, n}, 2)
		}
		for _, n := range noNumbers {
			noOffset(t, r, n)
			noOffset(t, Recent{n - 2, n, 1}, n)
		}
	}
}

func TestEachOffsetAndNumber(t *testing.T) {
	for _, r := range []Recent{First(), {4, 2, 1}, {65533, 3, 65531}, {10, 10, 20}, {}, {-5, 65534, 70000}} {
		for n := -3; n < 1<<16+3; n++ {
			holds(t, r, n)
		}
	}
}

func TestEachThreeOfFew(t *testing.T) {
	few := []int{-1, 0, 1, 2, 3, 4, 5, 65531, 65533, 65534, 65535}
	all := slices.Concat(few, []int{6, 7, 8, 65532, 65536}, noOffsets, noNumbers)
	for _, a := range few {
		for _, b := range few {
			for _, c := range few {
				for _, n := range all {
					holds(t, Recent{a, b, c}, n)
				}
			}
		}
	}
}

// What was numbered one behind the other comes back, and the three stay unlike.
func TestOffsetsOneBehindTheOther(t *testing.T) {
	d := dice(13)
	for range 200 {
		w, r := First(), First()
		most := 1 + d.next()%(1<<(1+d.next()%16))
		for range 100 {
			offset := min(1+d.next()%most, 65533)
			number, behind, ok := w.Number(offset)
			back, after, known := r.Offset(number)
			if !ok || !known || back != offset || behind != after || behind[0] != offset {
				t.Fatal(w, offset, number, behind, ok, back, after, known)
			}
			w, r = behind, after
			if w[0] == w[1] || w[0] == w[2] || w[1] == w[2] {
				t.Fatal(w)
			}
		}
	}
}

func TestRecentIsNotChanged(t *testing.T) {
	r := Recent{1, 2, 4}
	r.Number(4)
	r.Number(9)
	r.Offset(1)
	r.Offset(100)
	if r != (Recent{1, 2, 4}) {
		t.Error(r)
	}
}

func FuzzRecent(f *testing.F) {
	f.Add(1, 2, 4, 3)
	f.Add(5, 5, 0, 7)
	f.Fuzz(func(t *testing.T, a, b, c, n int) {
		holds(t, Recent{a, b, c}, n)
		holds(t, Recent{a, b, c}, a)
		holds(t, Recent{a, b, c}, int(uint16(n)))
	})
}
