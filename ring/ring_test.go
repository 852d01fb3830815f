package ring

import (
	"fmt"
	"math"
	"slices"
	"strings"
	"testing"
	"unsafe"

	"pemmican/api"
)

// A dice gives the same numbers in every run.
type dice uint64

func (d *dice) next() int {
	*d = *d*6364136223846793005 + 1442695040888963407
	return int(*d >> 33)
}

// A plain ring has all that was ever added, and tells the last ones of it.
type plain struct {
	places int
	added  []string
}

func (p *plain) all() []string {
	return p.added[max(len(p.added)-p.places, 0):]
}

// has fails if the ring doesn't have just these records, in this order.
func has(t *testing.T, r *Ring, want ...string) {
	t.Helper()
	if got := r.All(); !slices.Equal(got, want) {
		t.Fatalf("All: %.20q, not %.20q", got, want)
	}
	if got := r.Len(); got != len(want) {
		t.Fatalf("Len: %d, not %d", got, len(want))
	}
	if got := r.Bytes(); got != len(strings.Join(want, "")) {
		t.Fatalf("Bytes: %d, not %d", got, len(strings.Join(want, "")))
	}
}

// ring makes one of n places, and adds records.
func ring(n int, records ...string) *Ring {
	r := New(n)
	for _, s := range records {
		r.Add(s)
	}
	return r
}

// sizes are how many places are asked for, and how many there are then.
var sizes = []struct{ asked, places int }{
	{math.MinInt, 1}, {math.MinInt32, 1}, {-64, 1}, {-2, 1}, {-1, 1}, {0, 1}, {1, 1},
	{2, 2}, {3, 3}, {31, 31}, {62, 62}, {63, 63}, {64, 64},
	{65, 64}, {66, 64}, {128, 64}, {256, 64}, {257, 64}, {1 << 16, 64}, {1<<32 + 1, 64}, {math.MaxInt, 64},
}

func TestExample(t *testing.T) {
	has(t, ring(2, "a", "b", "c"), "b", "c")
}

func TestRingsWorkedOut(t *testing.T) {
	for _, c := range []struct {
		n           int
		added, want string
		bytes       int
	}{
		{3, "", "", 0},
		{3, "a", "a", 1},
		{3, "a bc", "a bc", 3},
		{3, "a bc def", "a bc def", 6},
		{3, "a bc def ghij", "bc def ghij", 9},
		{3, "a bc def ghij k", "def ghij k", 8},
		{3, "a bc def ghij k l m", "k l m", 3},
		{2, "a bc def ghij", "def ghij", 7},
		{1, "a", "a", 1},
		{1, "a bc", "bc", 2},
		{0, "a bc def", "def", 3},
		{-1, "a bc def", "def", 3},
		{4, "a a b a a", "a b a a", 4},
		{2, "a a a", "a a", 2},
	} {
		t.Run(fmt.Sprint(c.n, " ", c.added), func(t *testing.T) {
			r := ring(c.n, strings.Fields(c.added)...)
			has(t, r, strings.Fields(c.want)...)
			if r.Bytes() != c.bytes {
				t.Fatal(r.Bytes())
			}
		})
	}
}

func TestHowManyPlaces(t *testing.T) {
	if api.MaxRing != 64 {
		t.Fatal(api.MaxRing)
	}
	for _, c := range sizes {
		r, p := New(c.asked), plain{places: c.places}
		has(t, r)
		for i := range 3*c.places + 2 {
			s := strings.Repeat(string(rune('a'+i%26)), i%7)
			r.Add(s)
			p.added = append(p.added, s)
			has(t, r, p.all()...)
		}
		if r.Len() != c.places {
			t.Fatal(c.asked, r.Len())
		}
	}
}

func TestEachNumberOfPlaces(t *testing.T) {
	for n := -3; n < 200; n++ {
		r, p := New(n), plain{places: min(max(n, 1), 64)}
		for i := range 140 {
			s := fmt.Sprint(i)
			r.Add(s)
			p.added = append(p.added, s)
			if !slices.Equal(r.All(), p.all()) {
				t.Fatal(n, i, r.All())
			}
		}
		has(t, r, p.all()...)
	}
}

func TestAnyBytesAreRecords(t *testing.T) {
	// A record of no bytes is one, too, and takes a place.
	has(t, ring(3, ""), "")
	has(t, ring(3, "", ""), "", "")
	has(t, ring(2, "a", "", ""), "", "")
	has(t, ring(2, "", "", "a"), "", "a")
	has(t, ring(1, "a", ""), "")
	has(t, ring(3, "\x00", "\xff\x80", "é\n"), "\x00", "\xff\x80", "é\n")
	// The chapter refuses none, and cuts none.
	for _, n := range []int{511, 512, 513, 600, 65536, 1 << 20} {
		long := strings.Repeat("x", n-1) + "y"
		r := ring(2, "a", long)
		has(t, r, "a", long)
		r.Add(long)
		has(t, r, long, long)
		if r.Bytes() != 2*n {
			t.Fatal(r.Bytes())
		}
		r.Add("")
		r.Add("b")
		has(t, r, "", "b")
	}
}

func TestClear(t *testing.T) {
	for _, c := range sizes {
		for _, before := range []int{0, 1, c.places - 1, c.places, c.places + 1, 2*c.places + 1} {
			r := New(c.asked)
			for i := range before {
				r.Add(fmt.Sprint("old", i))
			}
			r.Clear()
			has(t, r)
			r.Clear()
			has(t, r)
			// There are as many places as ahead of it.
			p := plain{places: c.places}
			for i := range c.places + 3 {
				s := fmt.Sprint("new", i)
				r.Add(s)
				p.added = append(p.added, s)
				has(t, r, p.all()...)
			}
		}
	}
}

func TestWhatIsGoneIsNotKept(t *testing.T) {
	r := ring(5, "a", "b", "c", "d", "e", "f", "g")
	kept := func() int {
		n := 0
		for _, s := range r.records {
			n += len(s)
		}
		return n
	}
	if kept() != r.Bytes() {
		t.Fatal(kept(), r.records)
	}
	r.Clear()
	if kept() != 0 {
		t.Fatal(kept(), r.records)
	}
}

func TestToAskChangesNothing(t *testing.T) {
	for _, r := range []*Ring{nil, New(3), ring(3, "a", "b"), ring(3, "a", "b", "c", "d")} {
		all := r.All()
		for range 5 {
			has(t, r, all...)
		}
	}
}

func TestNoRing(t *testing.T) {
	var none *Ring
	has(t, none)
	none.Add("a")
	has(t, none)
	none.Clear()
	has(t, none)
	none.Add("")
	has(t, none)
}

func TestTheZeroRing(t *testing.T) {
	// The chapter says nothing of it; what is added is the last one here, too.
	var r Ring
	has(t, &r)
	r.Clear()
	has(t, &r)
	r.Add("a")
	has(t, &r, "a")
	r.Add("bc")
	has(t, &r, "bc")
	r.Clear()
	has(t, &r)
	r.Add("d")
	r.Add("e")
	has(t, &r, "e")
}

func TestAnswersAreTheCallersOwn(t *testing.T) {
	for _, records := range [][]string{{"a"}, {"a", "b", "c"}, {"a", "b", "c", "d"}, {"a", "b", "c", "d", "e", "f", "g"}} {
		r := ring(4, records...)
		want := slices.Clone(r.All())
		one, two := r.All(), r.All()
		for i := range one {
			one[i] = "x"
		}
		one = append(one, "y")
		one = append(one[:0], "z")
		has(t, r, want...)
		if !slices.Equal(two, want) {
			t.Fatal(two)
		}
		// What comes later isn't seen in what was answered.
		r.Add("later")
		r.Add("later still")
		if !slices.Equal(two, want) || one[0] != "z" {
			t.Fatal(one, two)
		}
		r.Clear()
		if !slices.Equal(two, want) {
			t.Fatal(two)
		}
	}
}

func TestNothingIsKeptOfBytes(t *testing.T) {
	raw := []byte("abc")
	r := ring(2, string(raw))
	clear(raw)
	has(t, r, "abc")
	// A record cut out of a great text doesn't keep all of it.
	text := strings.Repeat("text", 1000)
	r.Add(text[8:12])
	got := r.All()[1]
	if got != "text" {
		t.Fatal(got)
	}
	at := uintptr(unsafe.Pointer(unsafe.StringData(got)))
	from := uintptr(unsafe.Pointer(unsafe.StringData(text)))
	if at >= from && at < from+uintptr(len(text)) {
		t.Fatal("the text is kept")
	}
}

func TestRingsGoOnByThemselves(t *testing.T) {
	r, s := ring(2, "a", "b"), ring(2, "a", "b")
	s.Add("c")
	has(t, r, "a", "b")
	has(t, s, "b", "c")
	s.Clear()
	has(t, r, "a", "b")
	for range 5 {
		c := *r
		c.Add("x")
		r.Add("y")
		if last := c.All()[1]; last != "x" {
			t.Fatal(last)
		}
		if last := r.All()[1]; last != "y" {
			t.Fatal(last)
		}
		c.Clear()
		has(t, &c)
	}
	has(t, r, "y", "y")
}

// held does what the bytes of acts say with a ring and a plain one, and fails if they answer otherwise.
func held(t *testing.T, n int, acts []byte) {
	t.Helper()
	r, p := New(n), plain{places: min(max(n, 1), 64)}
	for i, act := range acts {
		switch {
		case act == 255:
			r.Clear()
			p.added = nil
		default:
			s := strings.Repeat(string([]byte{act}), (i+int(act))%9)
			r.Add(s)
			p.added = append(p.added, s)
		}
		has(t, r, p.all()...)
	}
}

func TestAnyActs(t *testing.T) {
	d := dice(18)
	for range 400 {
		acts := make([]byte, d.next()%300)
		often := 1 + d.next()%200
		for i := range acts {
			acts[i] = byte(d.next() % 255)
			if d.next()%often == 0 {
				acts[i] = 255
			}
		}
		held(t, d.next()%70-2, acts)
	}
}

func FuzzRing(f *testing.F) {
	f.Add(2, []byte("abc"))
	f.Add(-1, []byte("ab\xffc"))
	f.Add(64, []byte(strings.Repeat("abcdefg\xff", 3)+strings.Repeat("hij", 50)))
	f.Fuzz(held)
}
