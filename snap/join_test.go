package snap

import (
	"math"
	"strings"
	"testing"
	"unsafe"

	"pemmican/api"
)

// most is of how many bytes a text may be that is put together.
const most = 1048576

// far are numbers that are the place of no piece.
var far = []int{math.MinInt, math.MinInt + 1, math.MinInt32, -1 << 30, -201, -200, -2, -1, most + 1, math.MaxInt32, 1 << 32, 1<<32 + 1, math.MaxInt - 200, math.MaxInt - 1, math.MaxInt}

// A plain joiner has a list of all pieces.
type plain struct {
	size   int
	sum    uint64
	pieces []string
}

func newPlain(size int, sum uint64) *plain {
	if size < 0 {
		size = 0
	}
	if size > most {
		size = most
	}
	return &plain{size: size, sum: sum}
}

func (p *plain) text() string {
	return strings.Join(p.pieces, "")
}

func (p *plain) put(at int, s string) api.Errno {
	if at != len(p.text()) {
		return api.ErrOrder
	}
	if len(p.text()+s) > p.size {
		return api.ErrLong
	}
	p.pieces = append(p.pieces, s)
	return api.OK
}

func (p *plain) done() (string, api.Errno) {
	if len(p.text()) < p.size {
		return "", api.ErrForm
	}
	if plainSum(p.text()) != p.sum {
		return "", api.ErrSum
	}
	return p.text(), api.OK
}

// alike fails if the joiner answers otherwise than the plain one.
func alike(t *testing.T, j *Joiner, p *plain) {
	t.Helper()
	if j.Size() != len(p.text()) {
		t.Fatalf("Size: %d, not %d", j.Size(), len(p.text()))
	}
	want, wantErr := p.done()
	if got, err := j.Done(); got != want || err != wantErr {
		t.Fatalf("Done() = %.20q, %d; not %.20q, %d", got, err, want, wantErr)
	}
}

// put puts a piece into both, and fails if the answer is another one.
func put(t *testing.T, j *Joiner, p *plain, at int, s string, want api.Errno) {
	t.Helper()
	if err := p.put(at, s); err != want {
		t.Fatalf("the plain one: Put(%d, %.20q) = %d, not %d", at, s, err, want)
	}
	if err := j.Put(at, s); err != want {
		t.Fatalf("Put(%d, %.20q) = %d, not %d", at, s, err, want)
	}
	alike(t, j, p)
}

// joined puts a text's pieces together again.
func joined(t *testing.T, s string) string {
	t.Helper()
	j := New(len(s), plainSum(s))
	for j.Size() < len(s) {
		piece := Piece(s, j.Size())
		if n := min(200, len(s)-j.Size()); len(piece) != n {
			t.Fatalf("a piece of %d bytes at %d of %d", len(piece), j.Size(), len(s))
		}
		if err := j.Put(j.Size(), piece); err != api.OK {
			t.Fatal(err)
		}
	}
	text, err := j.Done()
	if text != s || err != api.OK {
		t.Fatalf("Done() = %.20q, %d; not %.20q", text, err, s)
	}
	return text
}

func TestEachPiece(t *testing.T) {
	d := dice(200)
	for _, n := range []int{0, 1, 2, 199, 200, 201, 202, 399, 400, 401, 600, 1000} {
		s := d.text(n)
		for at := -3; at < n+5; at++ {
			want := ""
			for i := at; i < at+200 && at >= 0 && i < n; i++ {
				want += s[i : i+1]
			}
			if got := Piece(s, at); got != want {
				t.Fatalf("Piece of %d bytes at %d = %.20q, not %.20q", n, at, got, want)
			}
		}
		for _, at := range far {
			if got := Piece(s, at); got != "" {
				t.Fatalf("Piece of %d bytes at %d = %.20q", n, at, got)
			}
		}
	}
}

func TestPiecesWorkedOut(t *testing.T) {
	s := strings.Repeat("a", 200) + strings.Repeat("b", 200) + "c"
	for _, c := range []struct {
		at   int
		want string
	}{
		{0, strings.Repeat("a", 200)},
		{1, strings.Repeat("a", 199) + "b"},
		{200, strings.Repeat("b", 200)},
		{201, strings.Repeat("b", 199) + "c"},
		{202, strings.Repeat("b", 198) + "c"},
		{399, "bc"},
		{400, "c"},
		{401, ""},
		{402, ""},
		{-1, ""},
	} {
		if got := Piece(s, c.at); got != c.want {
			t.Errorf("Piece at %d = %q", c.at, got)
		}
	}
}

func TestJoinersWorkedOut(t *testing.T) {
	// The sum of "ab" is told in README.md, and in the tests of layer 4.
	const ab = 0x1A209FE30190263C
	j := New(2, ab)
	p := newPlain(2, ab)
	alike(t, j, p)
	put(t, j, p, 1, "a", api.ErrOrder)
	put(t, j, p, 0, "abc", api.ErrLong)
	put(t, j, p, 0, "a", api.OK)
	put(t, j, p, 0, "a", api.ErrOrder)
	put(t, j, p, 1, "bc", api.ErrLong)
	if s, err := j.Done(); s != "" || err != api.ErrForm || j.Size() != 1 {
		t.Fatal(s, err, j.Size())
	}
	put(t, j, p, 1, "b", api.OK)
	if s, err := j.Done(); s != "ab" || err != api.OK || j.Size() != 2 {
		t.Fatal(s, err, j.Size())
	}
	put(t, j, p, 2, "c", api.ErrLong)
	put(t, j, p, 2, "", api.OK)
	put(t, j, p, 3, "", api.ErrOrder)
	if s, err := j.Done(); s != "ab" || err != api.OK || j.Size() != 2 {
		t.Fatal(s, err, j.Size())
	}
}

func TestOtherSums(t *testing.T) {
	for _, s := range []string{"", "a", "ab", strings.Repeat("x", 700)} {
		right := plainSum(s)
		for _, c := range []uint64{right, 0, 1, ^right, right + 1, right ^ 1<<63, plainSum(s + "\x00"), math.MaxUint64} {
			j, p := New(len(s), c), newPlain(len(s), c)
			alike(t, j, p)
			if s != "" {
				if text, err := j.Done(); text != "" || err != api.ErrForm {
					t.Fatalf("too few, and another sum: %q, %d", text, err)
				}
			}
			put(t, j, p, 0, s, api.OK)
			want, err := "", api.ErrSum
			if c == right {
				want, err = s, api.OK
			}
			for range 3 {
				if text, e := j.Done(); text != want || e != err {
					t.Fatalf("Done() = %.20q, %d; not %.20q, %d", text, e, want, err)
				}
			}
		}
		// Another text of as many bytes has another sum.
		if s == "" {
			continue
		}
		j, p := New(len(s), right), newPlain(len(s), right)
		put(t, j, p, 0, "y"+s[1:], api.OK)
		if text, err := j.Done(); text != "" || err != api.ErrSum {
			t.Fatalf("%q, %d", text, err)
		}
	}
}

func TestSizes(t *testing.T) {
	for _, c := range []struct{ size, want int }{
		{math.MinInt, 0}, {math.MinInt32, 0}, {-most, 0}, {-2, 0}, {-1, 0}, {0, 0}, {1, 1}, {2, 2}, {199, 199}, {200, 200}, {201, 201}, {65536, 65536},
		{most - 1, most - 1}, {most, most}, {most + 1, most}, {2 * most, most}, {math.MaxInt32, most}, {1 << 32, most}, {1<<32 + 1, most}, {math.MaxInt, most},
	} {
		s := strings.Repeat("s", c.want)
		j := New(c.size, plainSum(s))
		if err := j.Put(0, s+"x"); err != api.ErrLong || j.Size() != 0 {
			t.Fatalf("New(%d): one more byte is let in: %d", c.size, err)
		}
		if c.want > 0 {
			if text, err := j.Done(); text != "" || err != api.ErrForm {
				t.Fatalf("New(%d): Done ahead of all: %d", c.size, err)
			}
			if err := j.Put(0, s[1:]); err != api.OK || j.Size() != c.want-1 {
				t.Fatalf("New(%d): a byte less: %d", c.size, err)
			}
			if text, err := j.Done(); text != "" || err != api.ErrForm {
				t.Fatalf("New(%d): Done ahead of the last byte: %d", c.size, err)
			}
			if err := j.Put(c.want-1, "s"); err != api.OK || j.Size() != c.want {
				t.Fatalf("New(%d): the last byte: %d", c.size, err)
			}
		}
		if text, err := j.Done(); text != s || err != api.OK {
			t.Fatalf("New(%d): Done() = %.20q, %d", c.size, text, err)
		}
		if err := j.Put(c.want, "x"); err != api.ErrLong || j.Size() != c.want {
			t.Fatalf("New(%d): one more behind all: %d", c.size, err)
		}
	}
}

func TestPlaces(t *testing.T) {
	s := "0123456789"
	for n := range len(s) + 1 {
		for at := -2; at < len(s)+4; at++ {
			for _, piece := range []string{"", "x", strings.Repeat("x", 10-n), strings.Repeat("x", 11-n), strings.Repeat("x", 300)} {
				j, p := New(len(s), plainSum(s)), newPlain(len(s), plainSum(s))
				if n > 0 {
					put(t, j, p, 0, s[:n], api.OK)
				}
				want := api.OK
				switch {
				case at != n:
					want = api.ErrOrder
				case n+len(piece) > 10:
					want = api.ErrLong
				}
				put(t, j, p, at, piece, want)
				// What was refused is as if it hadn't been.
				if want != api.OK {
					put(t, j, p, n, s[n:], api.OK)
					if text, err := j.Done(); text != s || err != api.OK {
						t.Fatal(text, err)
					}
				}
			}
		}
		for _, at := range far {
			j, p := New(len(s), plainSum(s)), newPlain(len(s), plainSum(s))
			put(t, j, p, 0, s[:n], api.OK)
			put(t, j, p, at, "", api.ErrOrder)
			put(t, j, p, at, "x", api.ErrOrder)
			put(t, j, p, at, strings.Repeat("x", 50), api.ErrOrder)
		}
	}
}

func TestPiecesOfAnySize(t *testing.T) {
	// The chapter refuses no piece for its length: more than 200 bytes may be put, and none.
	d := dice(4)
	s := d.text(2000)
	for _, n := range []int{1, 2, 7, 199, 200, 201, 999, 1999, 2000} {
		j, p := New(len(s), plainSum(s)), newPlain(len(s), plainSum(s))
		for at := 0; at < len(s); at += n {
			put(t, j, p, at, "", api.OK)
			put(t, j, p, at, s[at:min(at+n, len(s))], api.OK)
		}
		put(t, j, p, len(s), "", api.OK)
		if text, err := j.Done(); text != s || err != api.OK {
			t.Fatal(n, err)
		}
	}
}

func TestAMillionPieces(t *testing.T) {
	j := New(most, plainSum(strings.Repeat("z", most)))
	for i := range most {
		if err := j.Put(i, "z"); err != api.OK {
			t.Fatal(i, err)
		}
	}
	if s, err := j.Done(); s != strings.Repeat("z", most) || err != api.OK {
		t.Fatal(err)
	}
}

func TestNoJoiner(t *testing.T) {
	var none *Joiner
	for range 3 {
		for _, at := range append(far, 0, 1, 200, most) {
			for _, s := range []string{"", "a", strings.Repeat("x", 201)} {
				if err := none.Put(at, s); err != api.ErrArg {
					t.Fatal(at, err)
				}
			}
		}
		if s, err := none.Done(); s != "" || err != api.ErrArg {
			t.Fatal(s, err)
		}
		if none.Size() != 0 {
			t.Fatal(none.Size())
		}
	}
}

func TestTheZeroJoiner(t *testing.T) {
	// The chapter says nothing of it; it is one of a text of no bytes and the sum 0.
	var j Joiner
	p := newPlain(0, 0)
	alike(t, &j, p)
	put(t, &j, p, 0, "", api.OK)
	put(t, &j, p, 0, "a", api.ErrLong)
	put(t, &j, p, 1, "", api.ErrOrder)
	if s, err := j.Done(); s != "" || err != api.ErrSum {
		t.Fatal(s, err)
	}
}

func TestJoinersGoOnByThemselves(t *testing.T) {
	size, of := 40, plainSum(strings.Repeat("ab", 20))
	j, p := New(size, of), newPlain(size, of)
	i, q := New(size, of), newPlain(size, of)
	put(t, j, p, 0, "ababab", api.OK)
	put(t, i, q, 0, "ab", api.OK)
	alike(t, j, p)
	for range 3 {
		c, copied := *j, *p
		copied.pieces = append([]string(nil), p.pieces...)
		put(t, &c, &copied, c.Size(), "xy", api.OK)
		put(t, j, p, j.Size(), "ab", api.OK)
		put(t, &c, &copied, c.Size(), "z", api.OK)
		alike(t, j, p)
		alike(t, i, q)
		alike(t, &c, &copied)
	}
	put(t, j, p, j.Size(), strings.Repeat("ab", (size-j.Size())/2), api.OK)
	if s, err := j.Done(); s != strings.Repeat("ab", 20) || err != api.OK {
		t.Fatal(s, err)
	}
	alike(t, i, q)
}

func TestNothingIsKeptOfPieces(t *testing.T) {
	j := New(6, plainSum("abcdef"))
	for at := 0; at < 6; at += 2 {
		raw := []byte("abcdef")[at : at+2]
		if err := j.Put(at, unsafe.String(&raw[0], len(raw))); err != api.OK {
			t.Fatal(err)
		}
		clear(raw)
	}
	first, err := j.Done()
	if first != "abcdef" || err != api.OK {
		t.Fatal(first, err)
	}
	again, _ := j.Done()
	if share(first, again) {
		t.Error("both answers have one memory")
	}
}

// acted does what the bytes of acts say with a joiner and a plain one, and fails if they answer otherwise.
// Two bytes are an act: at which place, and how many bytes.
func acted(t *testing.T, size int, text string, acts []byte) {
	t.Helper()
	size %= 2000
	of := plainSum(text[:min(max(size, 0), len(text))])
	j, p := New(size, of), newPlain(size, of)
	for i := 0; i+1 < len(acts) && i < 400; i += 2 {
		at := len(p.text())
		if acts[i]%8 == 7 {
			at += int(acts[i]/8) - 16
		}
		n := int(acts[i+1])
		if acts[i]%8 == 6 {
			n = p.size - len(p.text()) + n%5 - 2
		}
		from := min(max(at, 0), len(text))
		s := text[from:min(max(from+n, from), len(text))]
		want := p.put(at, s)
		if err := j.Put(at, s); err != want {
			t.Fatalf("act %d: Put(%d, %d bytes) = %d, not %d", i/2, at, len(s), err, want)
		}
		alike(t, j, p)
	}
}

func TestAnyActs(t *testing.T) {
	d := dice(5)
	text := d.text(3000)
	for range 1000 {
		acts := d.text(2 * (d.next() % 60))
		acted(t, d.next()%2100-50, text, []byte(acts))
	}
}

func FuzzJoiner(f *testing.F) {
	f.Add(10, "0123456789abc", []byte{0, 5, 7, 3, 6, 2, 6, 3})
	f.Add(-1, "", []byte{0, 0})
	f.Fuzz(func(t *testing.T, size int, text string, acts []byte) { acted(t, size, text, acts) })
}
