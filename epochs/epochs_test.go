package epochs

import (
	"fmt"
	"math"
	"slices"
	"strings"
	"testing"
	"unsafe"

	"pemmican/api"
)

// A dice gives the same numbers in every run.
type dice uint64

func (d *dice) next() int {
	*d = *d*6364136223846793005 + 1442695040888963407
	return int(*d >> 33)
}

// A plain store has all that was ever added, its epoch being its place and one, and notes what went.
type plain []struct {
	text string
	held int
	gone bool
}

func (p *plain) all() []int {
	var l []int
	for i, d := range *p {
		if !d.gone {
			l = append(l, i+1)
		}
	}
	return l
}

func (p *plain) has(epoch int) bool {
	return epoch >= 1 && epoch <= len(*p) && !(*p)[epoch-1].gone
}

func (p *plain) add(text string) (int, api.Errno) {
	if len(text) > 256 {
		return 0, api.ErrLong
	}
	if l := p.all(); len(l) == 8 {
		goes := 0
		for _, e := range slices.Backward(l) {
			if e != len(*p) && (*p)[e-1].held == 0 {
				goes = e
			}
		}
		if goes == 0 {
			return 0, api.ErrFull
		}
		(*p)[goes-1].gone = true
	}
	*p = append(*p, plain{{text: text}}...)
	return len(*p), api.OK
}

func (p *plain) hold(epoch int) bool {
	if !p.has(epoch) {
		return false
	}
	(*p)[epoch-1].held++
	return true
}

func (p *plain) let(epoch int) bool {
	if !p.has(epoch) || (*p)[epoch-1].held == 0 {
		return false
	}
	(*p)[epoch-1].held--
	return true
}

// far are epochs that no store here has.
var far = []int{math.MinInt, math.MinInt32, -1 << 30, -9, -8, -2, -1, 0, 1 << 20, 1 << 30, math.MaxInt32, 1 << 32, 1<<32 + 1, math.MaxInt - 1, math.MaxInt}

// alike fails if the store answers otherwise than the plain one, of all epochs that ever were, and others.
func alike(t *testing.T, s *Store, p *plain) {
	t.Helper()
	if got := s.All(); !slices.Equal(got, p.all()) {
		t.Fatalf("All: %v, not %v", got, p.all())
	}
	if got := s.Last(); got != len(*p) {
		t.Fatalf("Last: %d, not %d", got, len(*p))
	}
	for i, d := range *p {
		text, ok := s.Text(i + 1)
		if d.gone {
			d.text, d.held = "", 0
		}
		if text != d.text || ok == d.gone || s.Held(i+1) != d.held {
			t.Fatalf("of %d: %.20q, %v, held %d; not %.20q, %v, held %d", i+1, text, ok, s.Held(i+1), d.text, !d.gone, d.held)
		}
	}
	for _, e := range append(far, len(*p)+1, len(*p)+2) {
		if text, ok := s.Text(e); text != "" || ok || s.Held(e) != 0 {
			t.Fatalf("of %d, which never was: %.20q, %v, held %d", e, text, ok, s.Held(e))
		}
	}
}

// there fails if there are other epochs in the store than these, or one of them has another text than store gave it.
func there(t *testing.T, s *Store, want ...int) {
	t.Helper()
	if got := s.All(); !slices.Equal(got, want) {
		t.Fatalf("All: %v, not %v", got, want)
	}
	for _, e := range want {
		if text, ok := s.Text(e); !ok || text != fmt.Sprint("text ", e) {
			t.Fatalf("Text(%d) = %q, %v", e, text, ok)
		}
	}
}

// more adds one, and fails if the answer is another one.
func more(t *testing.T, s *Store, epoch int, err api.Errno) {
	t.Helper()
	if e, got := s.Add(fmt.Sprint("text ", s.Last()+1)); e != epoch || got != err {
		t.Fatalf("Add: %d, %d; not %d, %d", e, got, epoch, err)
	}
}

// store makes one to which n dictionaries were added.
func store(t *testing.T, n int) *Store {
	t.Helper()
	s := New()
	for i := range n {
		more(t, s, i+1, api.OK)
	}
	return s
}

// hold holds each of these once more.
func hold(t *testing.T, s *Store, epochs ...int) {
	t.Helper()
	for _, e := range epochs {
		if !s.Hold(e) {
			t.Fatalf("Hold(%d)", e)
		}
	}
}

// let lets each of these go once.
func let(t *testing.T, s *Store, epochs ...int) {
	t.Helper()
	for _, e := range epochs {
		if !s.Let(e) {
			t.Fatalf("Let(%d)", e)
		}
	}
}

func TestExample(t *testing.T) {
	s := store(t, 8)
	there(t, s, 1, 2, 3, 4, 5, 6, 7, 8)
	more(t, s, 9, api.OK)
	there(t, s, 2, 3, 4, 5, 6, 7, 8, 9)

	s = store(t, 8)
	hold(t, s, 1)
	more(t, s, 9, api.OK)
	there(t, s, 1, 3, 4, 5, 6, 7, 8, 9)
}

func TestLimits(t *testing.T) {
	if api.MaxEpochs != 8 || api.MaxDict != 256 {
		t.Fatal(api.MaxEpochs, api.MaxDict)
	}
}

func TestNoneIsThereAtFirst(t *testing.T) {
	s := New()
	alike(t, s, &plain{})
	if s.Hold(1) || s.Let(1) || s.Hold(0) || s.Let(0) {
		t.Fatal("what isn't there is held, or let go")
	}
	alike(t, s, &plain{})
}

func TestEpochsGoOn(t *testing.T) {
	s := New()
	for i := 1; i <= 1000; i++ {
		more(t, s, i, api.OK)
		if s.Last() != i {
			t.Fatal(i, s.Last())
		}
		var want []int
		for e := max(i-7, 1); e <= i; e++ {
			want = append(want, e)
		}
		there(t, s, want...)
	}
	for _, e := range append(far, 1, 2, 991, 992, 1001) {
		if text, ok := s.Text(e); text != "" || ok || s.Held(e) != 0 || s.Hold(e) || s.Let(e) {
			t.Fatalf("of %d: %q, %v", e, text, ok)
		}
	}
	there(t, s, 993, 994, 995, 996, 997, 998, 999, 1000)
}

func TestEachLength(t *testing.T) {
	s, p := New(), &plain{}
	d := dice(21)
	for n := range 600 {
		b := make([]byte, n)
		for i := range b {
			b[i] = byte(d.next())
		}
		e, err := s.Add(string(b))
		want, wantErr := p.add(string(b))
		if e != want || err != wantErr || (err == api.OK) != (n <= 256) {
			t.Fatalf("Add of %d bytes: %d, %d; not %d, %d", n, e, err, want, wantErr)
		}
		alike(t, s, p)
	}
	if s.Last() != 257 {
		t.Fatal(s.Last())
	}
	if e, err := s.Add(strings.Repeat("x", 1<<20)); e != 0 || err != api.ErrLong {
		t.Fatal(e, err)
	}
	alike(t, s, p)
}

func TestAnyTextIsADictionary(t *testing.T) {
	// The empty one is one, too, and one that is there already becomes one more.
	s, p := New(), &plain{}
	for i, text := range []string{"", "a", "", "a", "a", "\x00\xff\x80", "é\n", strings.Repeat("x", 256), "", "a"} {
		if e, err := s.Add(text); e != i+1 || err != api.OK {
			t.Fatalf("Add(%.20q): %d, %d", text, e, err)
		}
		p.add(text)
		alike(t, s, p)
	}
	if text, ok := s.Text(9); text != "" || !ok {
		t.Fatal("the empty one isn't there")
	}
}

func TestTheEldestThatIsFreeGoes(t *testing.T) {
	// Each choice of those that are held: the first one that isn't, but the last one, goes.
	for chosen := range 256 {
		s, p := store(t, 8), &plain{}
		for e := 1; e <= 8; e++ {
			p.add(fmt.Sprint("text ", e))
			if chosen>>(e-1)&1 == 1 {
				hold(t, s, e)
				p.hold(e)
			}
		}
		goes := 0
		for e := 7; e >= 1; e-- {
			if chosen>>(e-1)&1 == 0 {
				goes = e
			}
		}
		p.add("text 9")
		if goes == 0 {
			more(t, s, 0, api.ErrFull)
			there(t, s, 1, 2, 3, 4, 5, 6, 7, 8)
		} else {
			more(t, s, 9, api.OK)
			there(t, s, slices.DeleteFunc([]int{1, 2, 3, 4, 5, 6, 7, 8, 9}, func(e int) bool { return e == goes })...)
		}
		alike(t, s, p)
	}
}

func TestFull(t *testing.T) {
	s := store(t, 8)
	hold(t, s, 1, 2, 3, 4, 5, 6, 7)
	for range 3 {
		// The last one isn't held, but it doesn't go.
		more(t, s, 0, api.ErrFull)
		there(t, s, 1, 2, 3, 4, 5, 6, 7, 8)
	}
	hold(t, s, 8)
	more(t, s, 0, api.ErrFull)
	let(t, s, 8)
	more(t, s, 0, api.ErrFull)
	// A refused one takes no epoch, and the place of one that is let go is the next one's.
	let(t, s, 5)
	more(t, s, 9, api.OK)
	there(t, s, 1, 2, 3, 4, 6, 7, 8, 9)
	// Now 8 isn't the last one any more, and free.
	more(t, s, 10, api.OK)
	there(t, s, 1, 2, 3, 4, 6, 7, 9, 10)
	hold(t, s, 9)
	more(t, s, 0, api.ErrFull)
	let(t, s, 7, 1)
	more(t, s, 11, api.OK)
	more(t, s, 12, api.OK)
	there(t, s, 2, 3, 4, 6, 9, 10, 11, 12)
}

func TestFewerThanEightAreNeverFull(t *testing.T) {
	s := New()
	for e := 1; e <= 8; e++ {
		more(t, s, e, api.OK)
		hold(t, s, e)
	}
	more(t, s, 0, api.ErrFull)
	there(t, s, 1, 2, 3, 4, 5, 6, 7, 8)
}

func TestHowOftenHeld(t *testing.T) {
	s := store(t, 3)
	for i := range 1000 {
		if s.Held(2) != i || s.Held(1) != 0 || s.Held(3) != 0 {
			t.Fatal(i, s.Held(1), s.Held(2), s.Held(3))
		}
		hold(t, s, 2)
	}
	for i := 1000; i > 0; i-- {
		if s.Held(2) != i {
			t.Fatal(i, s.Held(2))
		}
		let(t, s, 2)
	}
	for range 3 {
		if s.Held(2) != 0 || s.Let(2) || s.Held(2) != 0 {
			t.Fatal("one that isn't held is let go")
		}
	}
	// What was refused isn't owed.
	hold(t, s, 2)
	if s.Held(2) != 1 {
		t.Fatal(s.Held(2))
	}
	there(t, s, 1, 2, 3)
}

func TestWhatIsHeldStays(t *testing.T) {
	s := store(t, 8)
	hold(t, s, 3, 3, 6)
	for e := 9; e <= 100; e++ {
		more(t, s, e, api.OK)
		if e >= 12 {
			there(t, s, 3, 6, e-5, e-4, e-3, e-2, e-1, e)
		}
	}
}

func TestHeldTwiceIsLetTwice(t *testing.T) {
	s := store(t, 8)
	hold(t, s, 1, 1)
	let(t, s, 1)
	more(t, s, 9, api.OK)
	there(t, s, 1, 3, 4, 5, 6, 7, 8, 9)
	let(t, s, 1)
	more(t, s, 10, api.OK)
	there(t, s, 3, 4, 5, 6, 7, 8, 9, 10)
	if s.Hold(1) || s.Let(1) || s.Held(1) != 0 {
		t.Fatal("what is gone is held")
	}
}

func TestANewOneIsNotHeld(t *testing.T) {
	// Its place is that of one that was held once.
	s := store(t, 8)
	hold(t, s, 1, 1, 8, 8)
	let(t, s, 1, 1)
	more(t, s, 9, api.OK)
	if s.Held(9) != 0 || s.Held(8) != 2 || s.Let(9) {
		t.Fatal(s.Held(9), s.Held(8))
	}
	there(t, s, 2, 3, 4, 5, 6, 7, 8, 9)
}

func TestOrderOfErrors(t *testing.T) {
	long := strings.Repeat("x", 257)
	s := store(t, 8)
	hold(t, s, 1, 2, 3, 4, 5, 6, 7, 8)
	if e, err := s.Add(long); e != 0 || err != api.ErrLong {
		t.Fatal("too long, and full:", e, err)
	}
	if e, err := s.Add(long[:256]); e != 0 || err != api.ErrFull {
		t.Fatal("full:", e, err)
	}
	let(t, s, 1)
	if e, err := s.Add(long); e != 0 || err != api.ErrLong {
		t.Fatal("too long:", e, err)
	}
	there(t, s, 1, 2, 3, 4, 5, 6, 7, 8)
	var none *Store
	if e, err := none.Add(long); e != 0 || err != api.ErrArg {
		t.Fatal("too long, and no store:", e, err)
	}
}

func TestNoStore(t *testing.T) {
	var none *Store
	for range 3 {
		if e, err := none.Add("a"); e != 0 || err != api.ErrArg {
			t.Fatal(e, err)
		}
		if e, err := none.Add(""); e != 0 || err != api.ErrArg {
			t.Fatal(e, err)
		}
		for _, e := range append(far, 1, 2, 8, 9) {
			if none.Hold(e) || none.Let(e) {
				t.Fatal(e)
			}
		}
		alike(t, none, &plain{})
	}
}

func TestTheZeroStore(t *testing.T) {
	// The chapter says nothing of it; it is one of no dictionaries.
	var s Store
	alike(t, &s, &plain{})
	more(t, &s, 1, api.OK)
	hold(t, &s, 1)
	more(t, &s, 2, api.OK)
	there(t, &s, 1, 2)
}

func TestWrongEpochs(t *testing.T) {
	s, p := store(t, 12), &plain{}
	for e := 1; e <= 12; e++ {
		p.add(fmt.Sprint("text ", e))
	}
	hold(t, s, 5, 12)
	p.hold(5)
	p.hold(12)
	for _, e := range append(far, 1, 2, 3, 4, 13, 14) {
		if s.Hold(e) || s.Let(e) {
			t.Fatalf("%d is held, or let go", e)
		}
		alike(t, s, p)
	}
}

func TestAnswersAreTheCallersOwn(t *testing.T) {
	s := store(t, 10)
	want := s.All()
	one, two := s.All(), s.All()
	for i := range one {
		one[i] = -1
	}
	one = append(one[:0], 7)
	there(t, s, want...)
	more(t, s, 11, api.OK)
	if !slices.Equal(two, want) || one[0] != 7 {
		t.Fatal(one, two)
	}
	there(t, s, 4, 5, 6, 7, 8, 9, 10, 11)
}

func TestNothingIsKeptOfBytes(t *testing.T) {
	raw := []byte("abc")
	s := New()
	s.Add(string(raw))
	clear(raw)
	if text, _ := s.Text(1); text != "abc" {
		t.Fatal(text)
	}
	// A dictionary cut out of a great text doesn't keep all of it.
	great := strings.Repeat("text", 1000)
	s.Add(great[8:12])
	text, _ := s.Text(2)
	at := uintptr(unsafe.Pointer(unsafe.StringData(text)))
	from := uintptr(unsafe.Pointer(unsafe.StringData(great)))
	if text != "text" || at >= from && at < from+uintptr(len(great)) {
		t.Fatal("the text is kept")
	}
}

func TestWhatIsGoneIsNotKept(t *testing.T) {
	s := New()
	d := dice(8)
	for range 300 {
		s.Add(strings.Repeat("x", d.next()%257))
		s.Hold(s.Last() - d.next()%9)
		s.Let(s.Last() - d.next()%9)
		kept, there := 0, 0
		for _, d := range s.dictionaries {
			kept += len(d.text)
		}
		for _, e := range s.All() {
			text, _ := s.Text(e)
			there += len(text)
		}
		if kept != there {
			t.Fatal(kept, there)
		}
	}
}

func TestStoresGoOnByThemselves(t *testing.T) {
	s, r := store(t, 8), store(t, 8)
	hold(t, r, 1)
	more(t, r, 9, api.OK)
	there(t, s, 1, 2, 3, 4, 5, 6, 7, 8)
	there(t, r, 1, 3, 4, 5, 6, 7, 8, 9)
	if s.Held(1) != 0 || r.Held(1) != 1 {
		t.Fatal(s.Held(1), r.Held(1))
	}
	c := *s
	hold(t, &c, 2)
	more(t, &c, 9, api.OK)
	more(t, &c, 10, api.OK)
	there(t, s, 1, 2, 3, 4, 5, 6, 7, 8)
	there(t, &c, 2, 4, 5, 6, 7, 8, 9, 10)
	if s.Held(2) != 0 || c.Held(2) != 1 {
		t.Fatal(s.Held(2), c.Held(2))
	}
}

// done does what the bytes of acts say with a store and a plain one, and fails if they answer otherwise.
// Two bytes are an act: what it is, and which epoch, counted from the last one back, or how many bytes.
func done(t *testing.T, acts []byte) {
	t.Helper()
	s, p := New(), &plain{}
	for i := 0; i+1 < len(acts) && i < 4000; i += 2 {
		act, n := acts[i]%8, int(acts[i+1])
		epoch := len(*p) + 1 - n%16
		var got, want string
		switch {
		case act < 3:
			text := strings.Repeat(string(rune('a'+i%26)), n+int(act)%3)
			e, err := s.Add(text)
			f, wantErr := p.add(text)
			got, want = fmt.Sprint("Add ", e, " ", err), fmt.Sprint("Add ", f, " ", wantErr)
		case act < 6:
			got, want = fmt.Sprint("Hold ", s.Hold(epoch)), fmt.Sprint("Hold ", p.hold(epoch))
		default:
			got, want = fmt.Sprint("Let ", s.Let(epoch)), fmt.Sprint("Let ", p.let(epoch))
		}
		if got != want {
			t.Fatalf("act %d, of %d: %s, not %s", i/2, epoch, got, want)
		}
		alike(t, s, p)
	}
}

func TestAnyActs(t *testing.T) {
	d := dice(2121)
	for range 300 {
		acts := make([]byte, 2*(d.next()%150))
		for i := range acts {
			acts[i] = byte(d.next())
		}
		done(t, acts)
	}
}

// The same, with held ones more often than not, so that the store is full for long.
func TestAnyActsOfAFullStore(t *testing.T) {
	d := dice(777)
	for range 300 {
		acts := []byte{0, 1, 0, 2, 0, 3, 0, 4, 0, 5, 0, 6, 0, 7, 0, 8}
		for range d.next() % 200 {
			acts = append(acts, []byte{0, 3, 3, 4, 7}[d.next()%5], byte(1+d.next()%9))
		}
		done(t, acts)
	}
}

func FuzzStore(f *testing.F) {
	f.Add([]byte{0, 1, 0, 2, 3, 1, 7, 1})
	f.Add([]byte{0, 1, 0, 2, 0, 3, 0, 4, 0, 5, 0, 6, 0, 7, 0, 8, 3, 8, 0, 9, 3, 1, 3, 2, 3, 3, 3, 4, 3, 5, 3, 6, 3, 7, 0, 9})
	f.Add([]byte{1, 255, 2, 255, 2, 254})
	f.Fuzz(done)
}
