package back

import (
	"bytes"
	"math"
	"slices"
	"testing"

	"pemmican/bits"
)

// wrong are the numbers of bits that Take doesn't do.
var wrong = []int{-1, -32, 33, 34, 64, 1 << 32, math.MinInt, math.MaxInt}

// A dice gives the same numbers in every run.
type dice uint64

func (d *dice) next() uint32 {
	*d = *d*6364136223846793005 + 1442695040888963407
	return uint32(*d >> 32)
}

// list makes n bits.
func (d *dice) list(n int) []bool {
	l := make([]bool, n)
	for i := range l {
		l[i] = d.next()&1 == 1
	}
	return l
}

// writer tells a Writer that has just the bits of l.
func writer(l []bool) *bits.Writer {
	var w bits.Writer
	for _, one := range l {
		if one {
			w.Put(1, 1)
		} else {
			w.Put(0, 1)
		}
	}
	return &w
}

// sealed tells the bytes of l and a 1 behind, bit by bit.
func sealed(l []bool) []byte {
	b := make([]byte, len(l)/8+1)
	for i, one := range l {
		if one {
			b[i/8] |= 1 << (i % 8)
		}
	}
	b[len(l)/8] |= 1 << (len(l) % 8)
	return b
}

// number tells l's bits as a number, the first one the lowest.
func number(l []bool) uint32 {
	var v uint32
	for i, one := range l {
		if one {
			v |= 1 << i
		}
	}
	return v
}

// open fails if b isn't opened with so many bits left.
func open(t *testing.T, b []byte, left int) *Reader {
	t.Helper()
	r, ok := Open(b)
	if !ok || r == nil || r.Left() != left {
		t.Fatalf("Open(%x): %v, Left %d, not %d", b, ok, r.Left(), left)
	}
	return r
}

// take fails if r doesn't give v by n bits, and left are left.
func take(t *testing.T, r *Reader, n int, v uint32, left int) {
	t.Helper()
	if got, ok := r.Take(n); !ok || got != v || r.Left() != left {
		t.Fatalf("Take(%d): %x, %v, not %x; Left %d, not %d", n, got, ok, v, r.Left(), left)
	}
}

// refuse fails if r reads n bits, or the refused call reads anything.
func refuse(t *testing.T, r *Reader, n int) {
	t.Helper()
	left := r.Left()
	if v, ok := r.Take(n); ok || v != 0 || r.Left() != left {
		t.Fatalf("Take(%d): %x, %v; Left %d, not %d", n, v, ok, r.Left(), left)
	}
}

func TestExample(t *testing.T) {
	var w bits.Writer
	w.Put(1, 1)
	w.Put(0, 1)
	w.Put(1, 1)
	if b := Seal(&w); !bytes.Equal(b, []byte{13}) {
		t.Fatalf("%x", b)
	}
	r := open(t, []byte{13}, 3)
	take(t, r, 1, 1, 2)
	take(t, r, 2, 1, 0)
}

func TestSealOfNothing(t *testing.T) {
	for _, w := range []*bits.Writer{nil, {}} {
		if b := Seal(w); !bytes.Equal(b, []byte{1}) {
			t.Fatalf("%x", b)
		}
	}
}

func TestSealAtEachLength(t *testing.T) {
	d := dice(1)
	for n := range 300 {
		for _, l := range [][]bool{make([]bool, n), d.list(n)} {
			if got, want := Seal(writer(l)), sealed(l); !bytes.Equal(got, want) {
				t.Fatalf("%d bits: %x, not %x", n, got, want)
			}
		}
	}
}

func TestSealLeavesTheWriter(t *testing.T) {
	d := dice(2)
	for n := range 140 {
		l := d.list(n)
		w := writer(l)
		want := w.Bytes()
		first := Seal(w)
		if w.Len() != n || !bytes.Equal(w.Bytes(), want) {
			t.Fatalf("%d bits: Len %d, %x, not %x", n, w.Len(), w.Bytes(), want)
		}
		w.Put(0, 1)
		if got := Seal(w); !bytes.Equal(got, sealed(append(l, false))) {
			t.Fatalf("%d bits and one more: %x", n, got)
		}
		if !bytes.Equal(first, sealed(l)) {
			t.Fatal("a later Put changes what was answered")
		}
	}
}

func TestSealIsNewMemory(t *testing.T) {
	for n := range 140 {
		l := make([]bool, n)
		w := writer(l)
		b := Seal(w)
		for i := range b {
			b[i] = 0xFF
		}
		_ = append(b, 0xFF)
		if got := Seal(w); !bytes.Equal(got, sealed(l)) {
			t.Fatalf("%d bits: %x", n, got)
		}
	}
}

func TestOpenRefuses(t *testing.T) {
	for _, b := range [][]byte{nil, {}, {0}, {0, 0}, {1, 0}, {0xFF, 0}, {1, 2, 3, 4, 5, 6, 7, 8, 0}} {
		if r, ok := Open(b); ok || r != nil {
			t.Errorf("%x: %v, %v", b, r, ok)
		}
	}
}

func TestOpenAtEachLastByte(t *testing.T) {
	for ahead := range 10 {
		for last := 1; last < 256; last++ {
			b := append(bytes.Repeat([]byte{0}, ahead), byte(last))
			seal := 7
			for last>>seal == 0 {
				seal--
			}
			r := open(t, b, 8*ahead+seal)
			take(t, r, seal, uint32(last)&^(1<<seal), 8*ahead)
		}
	}
}

func TestOnlyTheLastOneIsTheSeal(t *testing.T) {
	r := open(t, []byte{0xFF, 0xFF}, 15)
	take(t, r, 15, 0x7FFF, 0)
	r = open(t, []byte{0x80, 1}, 8)
	take(t, r, 1, 1, 7)
	take(t, r, 7, 0, 0)
}

func TestTakeAtEachPlace(t *testing.T) {
	d := dice(3)
	for left := range 110 {
		l := d.list(left)
		b := Seal(writer(l))
		for behind := range left + 1 {
			for n := range 33 {
				r := open(t, b, left)
				for range behind {
					r.Take(1)
				}
				at := left - behind - n
				if at < 0 {
					refuse(t, r, n)
					continue
				}
				take(t, r, n, number(l[at:at+n]), at)
			}
		}
	}
}

func TestTakeOfFullWords(t *testing.T) {
	for shift := range 8 {
		var w bits.Writer
		w.Put(0, shift)
		w.Put(math.MaxUint32, 32)
		w.Put(0x80000001, 32)
		r := open(t, Seal(&w), 64+shift)
		take(t, r, 32, 0x80000001, 32+shift)
		take(t, r, 32, math.MaxUint32, shift)
		take(t, r, shift, 0, 0)
	}
}

func TestTakeRefusesAndLeaves(t *testing.T) {
	r := open(t, []byte("\x01\x02\x03\x04\x05\x06\x07\x08\x01"), 64)
	for i := range 8 {
		for _, n := range wrong {
			refuse(t, r, n)
		}
		take(t, r, 0, 0, 64-8*i)
		take(t, r, 8, uint32(8-i), 56-8*i)
	}
	take(t, r, 0, 0, 0)
	refuse(t, r, 1)
	refuse(t, r, 32)
}

func TestTakeOfFewerThanAreLeft(t *testing.T) {
	r := open(t, []byte("\xFF\xFF"), 15)
	refuse(t, r, 16)
	take(t, r, 10, 0x3FF, 5)
	refuse(t, r, 6)
	take(t, r, 5, 0x1F, 0)
	refuse(t, r, 1)
}

func TestReaderOfNothing(t *testing.T) {
	for _, r := range []*Reader{open(t, []byte{1}, 0), {}} {
		take(t, r, 0, 0, 0)
		refuse(t, r, 1)
		refuse(t, r, 32)
	}
}

func TestReaderKeepsAndChangesNothing(t *testing.T) {
	b := []byte("\x12\x34\x56")
	r := open(t, b, 22)
	take(t, r, 6, 0x16, 16)
	if !bytes.Equal(b, []byte("\x12\x34\x56")) {
		t.Fatalf("%x", b)
	}
	clear(b)
	take(t, r, 16, 0x3412, 0)
}

func TestCopyOfReaderGoesOnByItself(t *testing.T) {
	a := open(t, []byte("\x12\x34\x01"), 16)
	take(t, a, 4, 3, 12)
	b := *a
	take(t, &b, 8, 0x41, 4)
	take(t, a, 12, 0x412, 0)
	take(t, &b, 4, 2, 0)
}

func TestTwoReadersOfOneText(t *testing.T) {
	text := []byte("\x12\x34\x01")
	a, b := open(t, text, 16), open(t, text, 16)
	take(t, a, 16, 0x3412, 0)
	take(t, b, 16, 0x3412, 0)
}

func TestNil(t *testing.T) {
	var r *Reader
	for _, n := range append([]int{0, 1, 32}, wrong...) {
		refuse(t, r, n)
	}
	if r.Left() != 0 {
		t.Error(r.Left())
	}
}

func TestWhatIsPutIsTakenTheLastOneFirst(t *testing.T) {
	d := dice(4)
	for range 300 {
		var w bits.Writer
		values := make([]uint32, d.next()%200)
		widths := make([]int, len(values))
		for i := range values {
			values[i], widths[i] = d.next(), int(d.next()%33)
			w.Put(values[i], widths[i])
		}
		left := w.Len()
		r := open(t, Seal(&w), left)
		for i := len(values) - 1; i >= 0; i-- {
			left -= widths[i]
			take(t, r, widths[i], uint32(uint64(values[i])&(1<<widths[i]-1)), left)
		}
		take(t, r, 0, 0, 0)
		refuse(t, r, 1)
	}
}

func TestManyBits(t *testing.T) {
	const n = 1 << 18
	var w bits.Writer
	w.Put(1, 1)
	for i := range n {
		w.Put(uint32(i)*2654435761, 32)
	}
	r := open(t, Seal(&w), 32*n+1)
	for i := n - 1; i >= 0; i-- {
		take(t, r, 32, uint32(i)*2654435761, 32*i+1)
	}
	take(t, r, 1, 1, 0)
}

func FuzzTake(f *testing.F) {
	f.Add([]byte(""), []byte("\x00\x01"))
	f.Add([]byte("\x12\x34\x56\x78\x9A"), []byte("\x03\x20\x21\xFF\x05\x00"))
	f.Add([]byte("\x12\x00"), []byte("\x01"))
	f.Fuzz(func(t *testing.T, text, widths []byte) {
		r, ok := Open(text)
		if !ok {
			if r != nil || len(text) > 0 && text[len(text)-1] != 0 {
				t.Fatalf("%x", text)
			}
			return
		}
		l := make([]bool, r.Left())
		at := len(l)
		for _, c := range slices.Concat(widths, bytes.Repeat([]byte{1}, len(l))) {
			n := int(int8(c))
			v, ok := r.Take(n)
			if ok != (n >= 0 && n <= 32 && n <= at) {
				t.Fatal(n, at, ok)
			}
			if !ok {
				continue
			}
			at -= n
			for i := range n {
				l[at+i] = v>>i&1 == 1
			}
		}
		if got := Seal(writer(l)); at != 0 || !bytes.Equal(got, text) {
			t.Fatalf("%d: %x, not %x", at, got, text)
		}
	})
}
