package bits

import (
	"bytes"
	"math"
	"testing"
)

// wrong are the numbers of bits that neither Put nor Take does.
var wrong = []int{-1, -32, 33, 34, 64, 1 << 32, math.MinInt, math.MaxInt}

// A dice gives the same numbers in every run.
type dice uint64

func (d *dice) next() uint32 {
	*d = *d*6364136223846793005 + 1442695040888963407
	return uint32(*d >> 32)
}

// put puts v's lowest n bits into the list of a model, one by one.
func put(l []bool, v uint32, n int) []bool {
	for i := range n {
		l = append(l, v>>i&1 == 1)
	}
	return l
}

// pack tells the bytes of a model's list.
func pack(l []bool) []byte {
	b := make([]byte, (len(l)+7)/8)
	for i, one := range l {
		if one {
			b[i/8] |= 1 << (i % 8)
		}
	}
	return b
}

// same fails if w hasn't just the bits of l.
func same(t *testing.T, w *Writer, l []bool) {
	t.Helper()
	if w.Len() != len(l) {
		t.Fatalf("Len %d, not %d", w.Len(), len(l))
	}
	if got, want := w.Bytes(), pack(l); !bytes.Equal(got, want) {
		t.Fatalf("%d bits: %x, not %x", len(l), got, want)
	}
}

// take fails if r doesn't give v by n bits, and left are left.
func take(t *testing.T, r *Reader, n int, v uint32, left int) {
	t.Helper()
	if got, ok := r.Take(n); !ok || got != v || r.Left() != left {
		t.Fatalf("Take(%d): %x, %v, not %x; Left %d, not %d", n, got, ok, v, r.Left(), left)
	}
}

// refuse fails if r reads n bits, or the refused call reads anything.
func refuse(t *testing.T, r *Reader, n int) {
	t.Helper()
	left := r.Left()
	if v, ok := r.Take(n); ok || v != 0 || r.Left() != left {
		t.Fatalf("Take(%d): %x, %v; Left %d, not %d", n, v, ok, r.Left(), left)
	}
}

func TestExample(t *testing.T) {
	var w Writer
	if !w.Put(5, 3) || !w.Put(1, 1) {
		t.Fatal("refused")
	}
	if got := w.Bytes(); !bytes.Equal(got, []byte{13}) || w.Len() != 4 {
		t.Fatal(got, w.Len())
	}
}

func TestZeroWriterIsEmpty(t *testing.T) {
	var w Writer
	same(t, &w, nil)
	if !w.Put(7, 0) {
		t.Fatal("no bits are refused")
	}
	same(t, &w, nil)
}

func TestPutAtEachPlace(t *testing.T) {
	for at := range 131 {
		for n := range 33 {
			for _, v := range []uint32{0, 1, 1 << 31, 0xA5C3960F, math.MaxUint32} {
				var w Writer
				var l []bool
				for i := range at {
					w.Put(uint32(i%3), 1)
					l = put(l, uint32(i%3), 1)
				}
				if !w.Put(v, n) {
					t.Fatal(at, n, v)
				}
				l = put(l, v, n)
				same(t, &w, l)
				w.Put(1, 1)
				same(t, &w, put(l, 1, 1))
			}
		}
	}
}

func TestPutRefusesAndLeaves(t *testing.T) {
	var w Writer
	var l []bool
	for range 70 {
		for _, n := range wrong {
			if w.Put(math.MaxUint32, n) {
				t.Fatal(n)
			}
			same(t, &w, l)
		}
		w.Put(1, 1)
		l = put(l, 1, 1)
	}
}

func TestBytesAreNewMemory(t *testing.T) {
	var w Writer
	for range 20 {
		w.Put(0x55, 7)
		early := w.Bytes()
		want := bytes.Clone(early)
		w.Put(math.MaxUint32, 11)
		if !bytes.Equal(early, want) {
			t.Fatal("a later Put changes what was answered")
		}
		want = w.Bytes()
		clear(w.Bytes())
		if !bytes.Equal(w.Bytes(), want) {
			t.Fatal("the answer is the Writer's own")
		}
	}
}

func TestBytesHasNoRoomBehind(t *testing.T) {
	var w Writer
	w.Put(1, 9)
	want := w.Bytes()
	_ = append(w.Bytes(), 0xFF)
	w.Put(0, 7)
	if got := w.Bytes(); !bytes.Equal(got, want) {
		t.Fatalf("%x, not %x", got, want)
	}
}

func TestCopyOfWriterGoesOnByItself(t *testing.T) {
	for at := range 140 {
		var a Writer
		var l []bool
		for range at {
			a.Put(1, 1)
			l = put(l, 1, 1)
		}
		b := a
		m := put(nil, math.MaxUint32, 32)
		m = append(l[:len(l):len(l)], m...)
		for range 5 {
			a.Put(0, 17)
			l = put(l, 0, 17)
			b.Put(math.MaxUint32, 32)
			same(t, &a, l)
			same(t, &b, m)
			m = put(m, math.MaxUint32, 32)
		}
	}
}

func TestTakeAtEachPlace(t *testing.T) {
	text := []byte("\xA5\x00\xFF\x3C\x81\x7E\x01\x80\x55\xAA\x0F\xF0\x99")
	for at := range 8*len(text) + 1 {
		for n := range 33 {
			r := NewReader(text)
			for range at {
				r.Take(1)
			}
			if at+n > 8*len(text) {
				refuse(t, r, n)
				continue
			}
			var v uint32
			for i := range n {
				v |= uint32(text[(at+i)/8]>>((at+i)%8)&1) << i
			}
			take(t, r, n, v, 8*len(text)-at-n)
		}
	}
}

func TestTakeRefusesAndLeaves(t *testing.T) {
	r := NewReader([]byte("\x01\x02\x03\x04\x05\x06\x07\x08\x09"))
	for i := range 9 {
		for _, n := range wrong {
			refuse(t, r, n)
		}
		take(t, r, 8, uint32(i+1), 8*(8-i))
	}
	take(t, r, 0, 0, 0)
	refuse(t, r, 1)
	refuse(t, r, 32)
}

func TestTakeOfFewerThanAreLeft(t *testing.T) {
	r := NewReader([]byte("\xFF\xFF"))
	refuse(t, r, 17)
	take(t, r, 10, 0x3FF, 6)
	refuse(t, r, 7)
	take(t, r, 6, 0x3F, 0)
	refuse(t, r, 1)
}

func TestReaderOfNothing(t *testing.T) {
	var zero Reader
	for _, r := range []*Reader{NewReader(nil), NewReader([]byte{}), &zero} {
		take(t, r, 0, 0, 0)
		refuse(t, r, 1)
		refuse(t, r, 32)
	}
}

func TestReaderKeepsAndChangesNothing(t *testing.T) {
	b := []byte("\x12\x34\x56")
	r := NewReader(b)
	take(t, r, 4, 2, 20)
	if !bytes.Equal(b, []byte("\x12\x34\x56")) {
		t.Fatalf("%x", b)
	}
	clear(b)
	take(t, r, 20, 0x56341, 0)
}

func TestCopyOfReaderGoesOnByItself(t *testing.T) {
	a := NewReader([]byte("\x12\x34"))
	take(t, a, 4, 2, 12)
	b := *a
	take(t, &b, 8, 0x41, 4)
	take(t, a, 12, 0x341, 0)
	take(t, &b, 4, 3, 0)
}

func TestNil(t *testing.T) {
	var w *Writer
	var r *Reader
	for _, n := range append([]int{0, 1, 32}, wrong...) {
		if w.Put(1, n) {
			t.Error("Put", n)
		}
		if v, ok := r.Take(n); ok || v != 0 {
			t.Error("Take", n, v, ok)
		}
	}
	if w.Len() != 0 || len(w.Bytes()) != 0 || r.Left() != 0 {
		t.Error(w.Len(), w.Bytes(), r.Left())
	}
}

func TestWidth(t *testing.T) {
	if Width(0) != 0 {
		t.Error(Width(0))
	}
	for i := range 32 {
		least := uint32(1) << i
		for _, v := range []uint32{least, least | 1, least | least>>1, least | (least - 1)} {
			if Width(v) != i+1 {
				t.Error(v, Width(v))
			}
		}
	}
}

func TestWhatIsPutIsTaken(t *testing.T) {
	d := dice(1)
	for range 300 {
		var w Writer
		var l []bool
		values := make([]uint32, d.next()%200)
		widths := make([]int, len(values))
		for i := range values {
			values[i], widths[i] = d.next(), int(d.next()%33)
			w.Put(values[i], widths[i])
			l = put(l, values[i], widths[i])
		}
		same(t, &w, l)
		r := NewReader(w.Bytes())
		left := r.Left()
		for i, v := range values {
			left -= widths[i]
			take(t, r, widths[i], uint32(uint64(v)&(1<<widths[i]-1)), left)
		}
		if left < 0 || left > 7 {
			t.Fatal("a byte too many or too few", left)
		}
		take(t, r, left, 0, 0)
	}
}

func TestManyBits(t *testing.T) {
	const n = 1 << 18
	var w Writer
	for i := range n {
		w.Put(uint32(i)*2654435761, 32)
	}
	if w.Len() != 32*n {
		t.Fatal(w.Len())
	}
	r := NewReader(w.Bytes())
	for i := range n {
		take(t, r, 32, uint32(i)*2654435761, 32*(n-1-i))
	}
}

func FuzzTake(f *testing.F) {
	f.Add([]byte(""), []byte("\x00\x01"))
	f.Add([]byte("\x12\x34\x56\x78\x9A"), []byte("\x03\x20\x21\xFF\x05\x00"))
	f.Fuzz(func(t *testing.T, text, widths []byte) {
		r := NewReader(text)
		var w Writer
		for _, c := range widths {
			n := int(int8(c))
			left := r.Left()
			v, ok := r.Take(n)
			if ok != (n >= 0 && n <= 32 && n <= left) {
				t.Fatal(n, left, ok)
			}
			if ok && !w.Put(v, n) {
				t.Fatal(n, v)
			}
		}
		for {
			v, ok := r.Take(1)
			if !ok {
				break
			}
			w.Put(v, 1)
		}
		if !bytes.Equal(w.Bytes(), text) || w.Len() != 8*len(text) {
			t.Fatalf("%x, not %x", w.Bytes(), text)
		}
	})
}
