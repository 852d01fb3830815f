package log

import (
	"fmt"
	"math"
	"slices"
	"strings"
	"testing"
	"unsafe"

	"pemmican/api"
)

// A dice gives the same numbers in every run.
type dice uint64

func (d *dice) next() int {
	*d = *d*6364136223846793005 + 1442695040888963407
	return int(*d >> 33)
}

// A plain log has a record and whether it is old, of each place.
type plain []struct {
	text string
	old  bool
}

func (p *plain) append(s string) (int, api.Errno) {
	if len(s) > 512 {
		return 0, api.ErrLong
	}
	if len(*p) >= 400 {
		return 0, api.ErrFull
	}
	*p = append(*p, plain{{text: s}}...)
	return len(*p) - 1, api.OK
}

func (p *plain) at(i int) (string, api.Errno) {
	for place, r := range *p {
		if place != i {
			continue
		}
		if r.old {
			return "", api.ErrOrder
		}
		return r.text, api.OK
	}
	return "", api.ErrNone
}

func (p *plain) old() []string {
	var l []string
	for _, r := range *p {
		if r.old {
			l = append(l, r.text)
		}
	}
	return l
}

func (p *plain) all() []string {
	var l []string
	for _, r := range *p {
		l = append(l, r.text)
	}
	return l
}

func (p *plain) truncate(n int) bool {
	if n <= len(p.old()) || n > len(*p) {
		return false
	}
	for i := range n {
		(*p)[i].old = true
	}
	return true
}

// far are numbers that are no place of any log, and how far none can be truncated.
var far = []int{math.MinInt, math.MinInt + 1, math.MinInt32, -1 << 30, -400, -2, -1, 401, 402, 512, 1 << 16, 1 << 20, math.MaxInt32, 1 << 32, 1<<32 + 1, math.MaxInt - 1, math.MaxInt}

// alike fails if the log answers otherwise than the plain one.
func alike(t *testing.T, l *Log, p *plain) {
	t.Helper()
	if l.Len() != len(*p) || l.Base() != len(p.old()) {
		t.Fatalf("Len %d, Base %d; not %d, %d", l.Len(), l.Base(), len(*p), len(p.old()))
	}
	if !slices.Equal(l.All(), p.all()) {
		t.Fatalf("All: %.20q, not %.20q", l.All(), p.all())
	}
	if !slices.Equal(l.Old(), p.old()) {
		t.Fatalf("Old: %.20q, not %.20q", l.Old(), p.old())
	}
	if want := len(strings.Join(p.all(), "")); l.Bytes() != want {
		t.Fatalf("Bytes: %d, not %d", l.Bytes(), want)
	}
	for i := -2; i < len(*p)+3; i++ {
		s, err := l.At(i)
		if want, wantErr := p.at(i); s != want || err != wantErr {
			t.Fatalf("At(%d) = %.20q, %d; not %.20q, %d", i, s, err, want, wantErr)
		}
	}
	for _, i := range far {
		if s, err := l.At(i); s != "" || err != api.ErrNone {
			t.Fatalf("At(%d) = %.20q, %d", i, s, err)
		}
	}
}

// record is the one that store puts in at a place.
func record(place int) string {
	return strings.Repeat("r", place%5) + fmt.Sprint(place)
}

// more appends one to both, and fails if the answer is another one.
func more(t *testing.T, l *Log, p *plain, s string, place int, err api.Errno) {
	t.Helper()
	if got, gotErr := l.Append(s); got != place || gotErr != err {
		t.Fatalf("Append(%.20q) = %d, %d; not %d, %d", s, got, gotErr, place, err)
	}
	if got, gotErr := p.append(s); got != place || gotErr != err {
		t.Fatalf("the plain one: Append(%.20q) = %d, %d; not %d, %d", s, got, gotErr, place, err)
	}
}

// less truncates both, and fails if the answer is another one.
func less(t *testing.T, l *Log, p *plain, n int, want bool) {
	t.Helper()
	if got := l.Truncate(n); got != want {
		t.Fatalf("Truncate(%d) = %v", n, got)
	}
	if got := p.truncate(n); got != want {
		t.Fatalf("the plain one: Truncate(%d) = %v", n, got)
	}
}

// store makes a log of n records, the first base ones old.
func store(t *testing.T, n, base int) (*Log, *plain) {
	t.Helper()
	l, p := New(), &plain{}
	for i := range n {
		more(t, l, p, record(i), i, api.OK)
	}
	if base > 0 {
		less(t, l, p, base, true)
	}
	return l, p
}

func TestExample(t *testing.T) {
	l := New()
	for i, s := range []string{"one", "two", "three"} {
		if place, err := l.Append(s); place != i || err != api.OK {
			t.Fatal(place, err)
		}
	}
	if !l.Truncate(2) {
		t.Fatal("not truncated")
	}
	if s, err := l.At(1); s != "" || err != api.ErrOrder {
		t.Fatal(s, err)
	}
	if s, err := l.At(2); s != "three" || err != api.OK {
		t.Fatal(s, err)
	}
}

func TestLimits(t *testing.T) {
	if api.MaxRecord != 512 || api.MaxLog != 400 {
		t.Fatal(api.MaxRecord, api.MaxLog)
	}
}

func TestLogsWorkedOut(t *testing.T) {
	for _, c := range []struct {
		records       string
		truncate      int
		ok            bool
		len, base     int
		old, all, at1 string
		err           api.Errno
		bytes         int
	}{
		{"", 0, false, 0, 0, "", "", "", api.ErrNone, 0},
		{"", 1, false, 0, 0, "", "", "", api.ErrNone, 0},
		{"a", 0, false, 1, 0, "", "a", "", api.ErrNone, 1},
		{"a", 1, true, 1, 1, "a", "a", "", api.ErrNone, 1},
		{"a", 2, false, 1, 0, "", "a", "", api.ErrNone, 1},
		{"a bc", 0, false, 2, 0, "", "a bc", "bc", api.OK, 3},
		{"a bc", 1, true, 2, 1, "a", "a bc", "bc", api.OK, 3},
		{"a bc", 2, true, 2, 2, "a bc", "a bc", "", api.ErrOrder, 3},
		{"a bc", 3, false, 2, 0, "", "a bc", "bc", api.OK, 3},
		{"a bc def", -1, false, 3, 0, "", "a bc def", "bc", api.OK, 6},
		{"a bc def", 1, true, 3, 1, "a", "a bc def", "bc", api.OK, 6},
		{"a bc def", 2, true, 3, 2, "a bc", "a bc def", "", api.ErrOrder, 6},
		{"a bc def", 3, true, 3, 3, "a bc def", "a bc def", "", api.ErrOrder, 6},
		{"a bc def", 4, false, 3, 0, "", "a bc def", "bc", api.OK, 6},
		{"a a a a", 3, true, 4, 3, "a a a", "a a a a", "", api.ErrOrder, 4},
	} {
		t.Run(fmt.Sprint(c.records, " ", c.truncate), func(t *testing.T) {
			l := New()
			for _, s := range strings.Fields(c.records) {
				l.Append(s)
			}
			if l.Truncate(c.truncate) != c.ok || l.Len() != c.len || l.Base() != c.base || l.Bytes() != c.bytes {
				t.Fatal(l.Len(), l.Base(), l.Bytes())
			}
			if !slices.Equal(l.Old(), strings.Fields(c.old)) || !slices.Equal(l.All(), strings.Fields(c.all)) {
				t.Fatal(l.Old(), l.All())
			}
			if s, err := l.At(1); s != c.at1 || err != c.err {
				t.Fatal(s, err)
			}
		})
	}
}

func TestNothingIsThereAtFirst(t *testing.T) {
	l := New()
	alike(t, l, &plain{})
	for _, n := range append(far, 0, 1, 2, 400) {
		if l.Truncate(n) {
			t.Fatalf("truncated to %d", n)
		}
	}
	alike(t, l, &plain{})
}

func TestEachLength(t *testing.T) {
	l, p := New(), &plain{}
	d := dice(26)
	for n := 140; n < 700; n++ {
		b := make([]byte, n)
		for i := range b {
			b[i] = byte(d.next())
		}
		if n > 512 {
			more(t, l, p, string(b), 0, api.ErrLong)
		} else {
			more(t, l, p, string(b), n-140, api.OK)
		}
		alike(t, l, p)
	}
	if l.Len() != 373 {
		t.Fatal(l.Len())
	}
	for _, n := range []int{513, 600, 1024, 65535, 65536, 1 << 20} {
		more(t, l, p, strings.Repeat("x", n), 0, api.ErrLong)
	}
	alike(t, l, p)
	l, p = New(), &plain{}
	for n := range 140 {
		more(t, l, p, strings.Repeat("y", n), n, api.OK)
	}
	alike(t, l, p)
}

func TestAnyTextIsARecord(t *testing.T) {
	// The empty one is one, too, and so is one that is there already.
	l, p := New(), &plain{}
	for i, s := range []string{"", "a", "", "", "a", "\x00\xff\x80", "é\n", strings.Repeat("x", 512), strings.Repeat("\x00", 512)} {
		more(t, l, p, s, i, api.OK)
		alike(t, l, p)
	}
	if s, err := l.At(0); s != "" || err != api.OK {
		t.Fatal(s, err)
	}
	less(t, l, p, 3, true)
	alike(t, l, p)
	if old := l.Old(); len(old) != 3 || old[1] != "a" {
		t.Fatal(old)
	}
}

func TestFull(t *testing.T) {
	for _, base := range []int{0, 1, 200, 399, 400} {
		// Old ones are kept, and so they take places, too.
		l, p := store(t, 400, base)
		for _, s := range []string{"", "a", strings.Repeat("x", 512)} {
			more(t, l, p, s, 0, api.ErrFull)
			alike(t, l, p)
		}
		if base < 400 {
			less(t, l, p, 400, true)
			more(t, l, p, "a", 0, api.ErrFull)
			alike(t, l, p)
		}
		if l.Len() != 400 || l.Base() != 400 {
			t.Fatal(l.Len(), l.Base())
		}
	}
	// One more than 399 is let in.
	l, p := store(t, 399, 399)
	more(t, l, p, "last", 399, api.OK)
	more(t, l, p, "a", 0, api.ErrFull)
	if s, err := l.At(399); s != "last" || err != api.OK {
		t.Fatal(s, err)
	}
	alike(t, l, p)
}

func TestTheMostBytes(t *testing.T) {
	l := New()
	for i := range 400 {
		if place, err := l.Append(strings.Repeat(string(rune('a'+i%26)), 512)); place != i || err != api.OK {
			t.Fatal(i, place, err)
		}
	}
	if l.Bytes() != 204800 {
		t.Fatal(l.Bytes())
	}
	if !l.Truncate(400) || l.Bytes() != 204800 {
		t.Fatal(l.Bytes())
	}
}

func TestOrderOfErrors(t *testing.T) {
	long := strings.Repeat("x", 513)
	l, p := store(t, 400, 10)
	more(t, l, p, long, 0, api.ErrLong)
	more(t, l, p, long[:512], 0, api.ErrFull)
	alike(t, l, p)
	var none *Log
	if place, err := none.Append(long); place != 0 || err != api.ErrArg {
		t.Fatal("too long, and no log:", place, err)
	}
	// What isn't there isn't old, though it is below the base.
	if s, err := l.At(-1); s != "" || err != api.ErrNone {
		t.Fatal(s, err)
	}
}

func TestRefusedOnesChangeNothing(t *testing.T) {
	for _, n := range []int{0, 1, 3, 399, 400} {
		for _, base := range []int{0, 1, 2, n - 1, n} {
			if base < 0 || base > n {
				continue
			}
			l, p := store(t, n, base)
			more(t, l, p, strings.Repeat("x", 513), 0, api.ErrLong)
			alike(t, l, p)
			for _, to := range append(far, 0, base-1, base, n+1, n+2) {
				less(t, l, p, to, false)
				alike(t, l, p)
			}
			if n < 400 {
				more(t, l, p, "next", n, api.OK)
			} else {
				more(t, l, p, "next", 0, api.ErrFull)
			}
			alike(t, l, p)
		}
	}
}

func TestEachTruncation(t *testing.T) {
	for n := range 9 {
		for base := range n + 1 {
			for to := -2; to < n+3; to++ {
				l, p := store(t, n, base)
				less(t, l, p, to, to > base && to <= n)
				alike(t, l, p)
				more(t, l, p, "behind", n, api.OK)
				alike(t, l, p)
			}
		}
	}
}

func TestTruncatedOneByOne(t *testing.T) {
	l, p := store(t, 400, 0)
	for n := 1; n <= 400; n++ {
		less(t, l, p, n, true)
		less(t, l, p, n, false)
		less(t, l, p, n-1, false)
		alike(t, l, p)
	}
	less(t, l, p, 401, false)
	alike(t, l, p)
}

func TestNoLog(t *testing.T) {
	var none *Log
	for range 3 {
		for _, s := range []string{"", "a", strings.Repeat("x", 512), strings.Repeat("x", 513)} {
			if place, err := none.Append(s); place != 0 || err != api.ErrArg {
				t.Fatal(place, err)
			}
		}
		for _, n := range append(far, 0, 1, 2, 399, 400) {
			if none.Truncate(n) {
				t.Fatalf("truncated to %d", n)
			}
			if s, err := none.At(n); s != "" || err != api.ErrNone {
				t.Fatal(n, s, err)
			}
		}
		alike(t, none, &plain{})
	}
}

func TestTheZeroLog(t *testing.T) {
	// The chapter says nothing of it; it is one of no records.
	var l Log
	p := &plain{}
	alike(t, &l, p)
	more(t, &l, p, "a", 0, api.OK)
	more(t, &l, p, "b", 1, api.OK)
	less(t, &l, p, 1, true)
	alike(t, &l, p)
}

func TestToAskChangesNothing(t *testing.T) {
	for n := range 6 {
		for base := range n + 1 {
			l, p := store(t, n, base)
			for range 3 {
				alike(t, l, p)
			}
		}
	}
}

func TestAnswersAreTheCallersOwn(t *testing.T) {
	for n := range 7 {
		for base := range n + 1 {
			l, p := store(t, n, base)
			all, old := l.All(), l.Old()
			wantAll, wantOld := slices.Clone(all), slices.Clone(old)
			for _, list := range [][]string{l.All(), l.Old()} {
				for i := range list {
					list[i] = "x"
				}
				list = append(list, "y")
				list = append(list[:0], "z")
				alike(t, l, p)
			}
			// Nor do both lists share their records, or see what comes later.
			for i := range old {
				old[i] = "o"
			}
			if !slices.Equal(all, wantAll) {
				t.Fatal(all)
			}
			old = l.Old()
			_ = append(all, "more")
			_ = append(old, "more")
			more(t, l, p, "later", n, api.OK)
			less(t, l, p, n+1, true)
			alike(t, l, p)
			if !slices.Equal(all, wantAll) || !slices.Equal(old, wantOld) {
				t.Fatal(all, old)
			}
		}
	}
}

func TestNothingIsKeptOfBytes(t *testing.T) {
	raw := []byte("abc")
	l := New()
	l.Append(string(raw))
	clear(raw)
	if s, _ := l.At(0); s != "abc" {
		t.Fatal(s)
	}
	// A record cut out of a great text doesn't keep all of it.
	great := strings.Repeat("text", 1000)
	l.Append(great[8:12])
	s, _ := l.At(1)
	at := uintptr(unsafe.Pointer(unsafe.StringData(s)))
	from := uintptr(unsafe.Pointer(unsafe.StringData(great)))
	if s != "text" || at >= from && at < from+uintptr(len(great)) {
		t.Fatal("the text is kept")
	}
}

func TestLogsGoOnByThemselves(t *testing.T) {
	l, p := store(t, 4, 1)
	r, q := store(t, 4, 1)
	more(t, r, q, "more", 4, api.OK)
	less(t, r, q, 5, true)
	alike(t, l, p)
	alike(t, r, q)
	for range 3 {
		c, copied := *l, slices.Clone(*p)
		more(t, &c, &copied, "of the copy", c.Len(), api.OK)
		more(t, l, p, "of the first one", l.Len(), api.OK)
		less(t, &c, &copied, c.Len(), true)
		alike(t, l, p)
		alike(t, &c, &copied)
	}
}

// done does what the bytes of acts say with a log and a plain one, and fails if they answer otherwise.
// Two bytes are an act: what it is, and how many bytes a record has, or where to.
func done(t *testing.T, acts []byte) {
	t.Helper()
	l, p := New(), &plain{}
	for i := 0; i+1 < len(acts) && i < 1000; i += 2 {
		act, n := acts[i]%8, int(acts[i+1])
		var got, want string
		switch {
		case act == 7:
			to := l.Base() + n%16 - 3
			got, want = fmt.Sprint("Truncate ", to, " ", l.Truncate(to)), fmt.Sprint("Truncate ", to, " ", p.truncate(to))
		case act == 6:
			to := l.Len() + n%16 - 12
			got, want = fmt.Sprint("Truncate ", to, " ", l.Truncate(to)), fmt.Sprint("Truncate ", to, " ", p.truncate(to))
		default:
			s := strings.Repeat(string(rune('a'+i%26)), n*int(act)%520)
			place, err := l.Append(s)
			wantPlace, wantErr := p.append(s)
			got, want = fmt.Sprint("Append ", place, " ", err), fmt.Sprint("Append ", wantPlace, " ", wantErr)
		}
		if got != want {
			t.Fatalf("act %d: %s, not %s", i/2, got, want)
		}
		alike(t, l, p)
	}
}

func TestAnyActs(t *testing.T) {
	d := dice(2626)
	for range 200 {
		acts := make([]byte, 2*(d.next()%120))
		for i := range acts {
			acts[i] = byte(d.next())
		}
		done(t, acts)
	}
}

// The same, with so many records that the log is full.
func TestAnyActsOfAFullLog(t *testing.T) {
	d := dice(400)
	for range 8 {
		acts := make([]byte, 1000)
		for i := 0; i < len(acts); i += 2 {
			acts[i], acts[i+1] = byte(d.next()%6), byte(d.next())
			if d.next()%9 == 0 {
				acts[i] = 6 + byte(d.next()%2)
			}
		}
		done(t, acts)
	}
}

func FuzzLog(f *testing.F) {
	f.Add([]byte{1, 1, 1, 2, 1, 3, 7, 5})
	f.Add([]byte{3, 171, 4, 128, 4, 129, 6, 12, 6, 13, 7, 3})
	f.Add([]byte(strings.Repeat("\x01\x01", 401) + "\x06\x0c\x01\x01"))
	f.Fuzz(done)
}
