package pipe

import (
	"fmt"
	"math"
	"slices"
	"strings"
	"testing"
	"unsafe"

	"pemmican/api"
	"pemmican/sum"
)

// A dice gives the same numbers in every run.
type dice uint64

func (d *dice) next() int {
	*d = *d*6364136223846793005 + 1442695040888963407
	return int(*d >> 33)
}

// text gives n bytes.
func (d *dice) text(n int) string {
	b := make([]byte, n)
	for i := range b {
		b[i] = byte(d.next())
	}
	return string(b)
}

// A plain pipe has two lists of bytes, each with the seal that it got when it was sent.
type plain struct {
	most        int
	sent        string
	flies, came []Byte
}

func (p *plain) room() int {
	return p.most - len(p.flies) - len(p.came)
}

func (p *plain) send(s string) bool {
	if len(s) > p.room() {
		return false
	}
	p.sent += s
	sums := sum.Prefixes(p.sent)[len(p.sent)-len(s):]
	for i, v := range sums {
		p.flies = append(p.flies, Byte{s[i], v, true})
	}
	return true
}

func (p *plain) deliver(n int) int {
	if n < 1 {
		return 0
	}
	n = min(n, len(p.flies))
	p.came = append(p.came, p.flies[:n]...)
	p.flies = p.flies[n:]
	return n
}

func (p *plain) inject(s string) bool {
	if len(s) > p.room() {
		return false
	}
	for i := range len(s) {
		p.came = append(p.came, Byte{s[i], 0, false})
	}
	return true
}

func (p *plain) take() (Byte, bool) {
	if len(p.came) == 0 {
		return Byte{}, false
	}
	b := p.came[0]
	p.came = p.came[1:]
	return b, true
}

// far are numbers beyond all that a pipe may have, above and below.
var far = []int{math.MinInt, math.MinInt + 1, -1 << 62, -1 << 32, math.MinInt32, -2049, -2048, 2049, 4096, math.MaxInt32, 1 << 32, 1<<32 + 1, 1 << 62, math.MaxInt - 1, math.MaxInt}

// has fails if other numbers of bytes fly, came, or may be there yet.
func has(t *testing.T, p *Pipe, flies, came, room int) {
	t.Helper()
	if p.Flies() != flies || p.Came() != came || p.Room() != room {
		t.Fatalf("%d fly, %d came, room for %d; not %d, %d, %d", p.Flies(), p.Came(), p.Room(), flies, came, room)
	}
}

// send sends each of the texts.
func send(t *testing.T, p *Pipe, texts ...string) {
	t.Helper()
	for _, s := range texts {
		if !p.Send(s) {
			t.Fatalf("Send(%.20q)", s)
		}
	}
}

// inject puts each of the texts in.
func inject(t *testing.T, p *Pipe, texts ...string) {
	t.Helper()
	for _, s := range texts {
		if !p.Inject(s) {
			t.Fatalf("Inject(%.20q)", s)
		}
	}
}

// deliver delivers n bytes, of which there are as many.
func deliver(t *testing.T, p *Pipe, n int) {
	t.Helper()
	if got := p.Deliver(n); got != n {
		t.Fatalf("Deliver(%d) = %d", n, got)
	}
}

// taken takes as many bytes as there are in want, and fails if one is another one, or has another seal.
func taken(t *testing.T, p *Pipe, want ...Byte) {
	t.Helper()
	for i, w := range want {
		if b, ok := p.Take(); !ok || b != w {
			t.Fatalf("byte %d: %v, %v; not %v", i, b, ok, w)
		}
	}
}

// empty fails if a byte may be taken.
func empty(t *testing.T, p *Pipe) {
	t.Helper()
	for range 2 {
		if b, ok := p.Take(); ok || b != (Byte{}) {
			t.Fatal("one more:", b, ok)
		}
	}
}

// sealed are the bytes of s from the place on, all of s having been sent.
func sealed(s string, from int) []Byte {
	l := make([]Byte, len(s))
	for i := range l {
		l[i] = Byte{s[i], sum.Of(s[:i+1]), true}
	}
	return l[from:]
}

// put are the bytes of s as others put them in.
func put(s string) []Byte {
	l := make([]Byte, len(s))
	for i := range l {
		l[i] = Byte{B: s[i]}
	}
	return l
}

func TestExample(t *testing.T) {
	p := New(2)
	send(t, p, "ab")
	deliver(t, p, 1)
	if b, ok := p.Take(); !ok || b.B != 'a' {
		t.Fatal(b, ok)
	}
	has(t, p, 1, 0, 1)
}

func TestSealsWorkedOut(t *testing.T) {
	p := New(10)
	send(t, p, "ab", "c")
	deliver(t, p, 3)
	taken(t, p, Byte{'a', 0x2BF55C8E49F070BF, true}, Byte{'b', 0x1A209FE30190263C, true}, Byte{'c', 0xEE8419C3A5D024AE, true})
	p.Clear()
	send(t, p, "\x00\xff")
	deliver(t, p, 2)
	taken(t, p, Byte{0, 0xCA3F7D253231A728, true}, Byte{255, 0xF3821E6427DE9029, true})
	empty(t, p)
}

func TestLimits(t *testing.T) {
	if api.MaxWire != 2048 {
		t.Fatal(api.MaxWire)
	}
}

func TestEachMost(t *testing.T) {
	mosts := slices.Clone(far)
	for n := -10; n <= 2060; n++ {
		mosts = append(mosts, n)
	}
	for _, most := range mosts {
		n := min(max(most, 1), 2048)
		p := New(most)
		has(t, p, 0, 0, n)
		full := strings.Repeat("x", n)
		if p.Send(full+"y") || p.Inject(full+"y") {
			t.Fatalf("New(%d) takes %d bytes", most, n+1)
		}
		has(t, p, 0, 0, n)
		send(t, p, full)
		has(t, p, n, 0, 0)
		if p.Send("y") || p.Inject("y") {
			t.Fatalf("New(%d), full, takes one more", most)
		}
		if got := p.Deliver(n + 1); got != n {
			t.Fatal(got)
		}
		has(t, p, 0, n, 0)
		if p.Send("y") || p.Inject("y") {
			t.Fatalf("New(%d), all having come, takes one more", most)
		}
		p.Clear()
		inject(t, p, full)
		has(t, p, 0, n, 0)
		if p.Send("y") || p.Inject("y") {
			t.Fatalf("New(%d), full of what was put in, takes one more", most)
		}
		p.Take()
		has(t, p, 0, n-1, 1)
	}
}

func TestAtFirst(t *testing.T) {
	p := New(5)
	has(t, p, 0, 0, 5)
	empty(t, p)
	for _, n := range append(far, -1, 0, 1, 5) {
		if got := p.Deliver(n); got != 0 {
			t.Fatal(n, got)
		}
	}
	has(t, p, 0, 0, 5)
}

func TestEachByte(t *testing.T) {
	var b []byte
	for i := range 256 {
		b = append(b, byte(i), byte(255-i))
	}
	all := string(b)
	p := New(2048)
	send(t, p, all)
	inject(t, p, all)
	deliver(t, p, 512)
	has(t, p, 0, 1024, 1024)
	taken(t, p, put(all)...)
	taken(t, p, sealed(all, 0)...)
	empty(t, p)
}

func TestASealIsOfAllThatWasSent(t *testing.T) {
	// However it is cut into texts, and whatever came and was taken between.
	d := dice(22)
	for range 100 {
		text := d.text(1 + d.next()%300)
		p := New(300)
		var got []Byte
		for at := 0; at < len(text); {
			n := min(d.next()%20, len(text)-at)
			send(t, p, text[at:at+n])
			at += n
			p.Deliver(d.next() % 25)
			for range d.next() % 25 {
				if b, ok := p.Take(); ok {
					got = append(got, b)
				}
			}
		}
		p.Deliver(300)
		for b, ok := p.Take(); ok; b, ok = p.Take() {
			got = append(got, b)
		}
		if !slices.Equal(got, sealed(text, 0)) {
			t.Fatalf("%q", text)
		}
	}
}

func TestASealIsOfWhatWasSentUpToIt(t *testing.T) {
	// What is sent behind a byte, ahead of its being taken, changes nothing of its seal.
	p := New(100)
	send(t, p, "a")
	deliver(t, p, 1)
	send(t, p, "bcd")
	taken(t, p, Byte{'a', 0x2BF55C8E49F070BF, true})
	deliver(t, p, 3)
	taken(t, p, sealed("abcd", 1)...)
}

func TestDeliver(t *testing.T) {
	for flies := range 12 {
		for _, n := range append(far, -3, -2, -1, 0, 1, 2, 3, 4, 5, 6, 7, 8, 9, 10, 11, 12, 13, 2047, 2048) {
			p := New(20)
			text := "abcdefghijkl"[:flies]
			send(t, p, "xy", text)
			deliver(t, p, 2)
			want := min(max(n, 0), flies)
			if got := p.Deliver(n); got != want {
				t.Fatalf("Deliver(%d) of %d: %d", n, flies, got)
			}
			has(t, p, flies-want, 2+want, 18-flies)
			taken(t, p, sealed("xy"+text, 0)[:2+want]...)
			empty(t, p)
			has(t, p, flies-want, 0, 20-flies+want)
		}
	}
}

func TestTakeWhenNoneCame(t *testing.T) {
	p := New(10)
	send(t, p, "ab")
	empty(t, p)
	has(t, p, 2, 0, 8)
	deliver(t, p, 1)
	taken(t, p, sealed("ab", 0)[0])
	empty(t, p)
	has(t, p, 1, 0, 9)
	deliver(t, p, 1)
	taken(t, p, sealed("ab", 1)...)
	empty(t, p)
	has(t, p, 0, 0, 10)
}

func TestInjectIsBehindWhatCame(t *testing.T) {
	// And ahead of what flies, whatever came and flies.
	for came := range 5 {
		for flies := range 5 {
			for _, s := range []string{"", "x", "xy", "xyz", "xyzw", "xyzvw"} {
				p := New(20)
				text := "abcdefgh"[:came+flies]
				send(t, p, text)
				deliver(t, p, came)
				inject(t, p, s)
				has(t, p, flies, came+len(s), 20-came-flies-len(s))
				taken(t, p, sealed(text, 0)[:came]...)
				taken(t, p, put(s)...)
				empty(t, p)
				deliver(t, p, flies)
				taken(t, p, sealed(text, came)...)
				empty(t, p)
				has(t, p, 0, 0, 20)
			}
		}
	}
}

func TestInjectTwice(t *testing.T) {
	p := New(20)
	send(t, p, "abc")
	inject(t, p, "x", "yz")
	deliver(t, p, 1)
	inject(t, p, "w")
	has(t, p, 2, 5, 13)
	taken(t, p, put("xyz")...)
	taken(t, p, sealed("abc", 0)[0])
	taken(t, p, put("w")...)
	empty(t, p)
	deliver(t, p, 2)
	taken(t, p, sealed("abc", 1)...)
}

func TestWhatIsPutInIsNotSent(t *testing.T) {
	// The seals of what is sent behind it are as if it weren't there, taken or not.
	p := New(20)
	inject(t, p, "xx")
	send(t, p, "a")
	inject(t, p, "yy")
	taken(t, p, put("xx")...)
	send(t, p, "b")
	taken(t, p, put("yy")...)
	send(t, p, "c")
	deliver(t, p, 3)
	taken(t, p, Byte{'a', 0x2BF55C8E49F070BF, true}, Byte{'b', 0x1A209FE30190263C, true}, Byte{'c', 0xEE8419C3A5D024AE, true})
	empty(t, p)
}

func TestPlacesOfWhatIsPutInAreSentIntoAgain(t *testing.T) {
	// A mark of one who had the place ahead doesn't stay.
	p := New(1)
	for range 5000 {
		inject(t, p, "x")
		taken(t, p, Byte{B: 'x'})
		p.Clear()
		send(t, p, "a")
		deliver(t, p, 1)
		taken(t, p, Byte{'a', 0x2BF55C8E49F070BF, true})
	}
	p = New(2048)
	inject(t, p, strings.Repeat("x", 2048))
	for range 2048 {
		taken(t, p, Byte{B: 'x'})
	}
	text := strings.Repeat("ab", 1024)
	send(t, p, text)
	deliver(t, p, 2048)
	taken(t, p, sealed(text, 0)...)
	inject(t, p, text)
	taken(t, p, put(text)...)
}

func TestRefusedSend(t *testing.T) {
	p := New(4)
	send(t, p, "ab")
	deliver(t, p, 1)
	for range 3 {
		// Nothing of it flies, and the next seal doesn't know of it.
		if p.Send("cde") || p.Send(strings.Repeat("c", 2049)) || p.Send(strings.Repeat("c", 1<<20)) {
			t.Fatal("there is no room")
		}
		has(t, p, 1, 1, 2)
	}
	send(t, p, "xy")
	has(t, p, 3, 1, 0)
	if p.Send("z") {
		t.Fatal("full")
	}
	deliver(t, p, 3)
	taken(t, p, sealed("abxy", 0)...)
	send(t, p, "zzzz")
	deliver(t, p, 4)
	taken(t, p, sealed("abxyzzzz", 4)...)
}

func TestRefusedInject(t *testing.T) {
	p := New(4)
	send(t, p, "ab")
	deliver(t, p, 1)
	for range 3 {
		if p.Inject("cde") || p.Inject(strings.Repeat("c", 2049)) || p.Inject(strings.Repeat("c", 1<<20)) {
			t.Fatal("there is no room")
		}
		has(t, p, 1, 1, 2)
	}
	inject(t, p, "xy")
	has(t, p, 1, 3, 0)
	if p.Inject("z") {
		t.Fatal("full")
	}
	deliver(t, p, 1)
	taken(t, p, sealed("ab", 0)[0])
	taken(t, p, put("xy")...)
	taken(t, p, sealed("ab", 1)...)
	empty(t, p)
}

func TestRoom(t *testing.T) {
	// What flies and what came have room together; only what is taken makes some again.
	p := New(10)
	send(t, p, "abcd")
	has(t, p, 4, 0, 6)
	deliver(t, p, 3)
	has(t, p, 1, 3, 6)
	inject(t, p, "xyz")
	has(t, p, 1, 6, 3)
	p.Take()
	has(t, p, 1, 5, 4)
	send(t, p, "efgh")
	has(t, p, 5, 5, 0)
	deliver(t, p, 5)
	has(t, p, 0, 10, 0)
	for i := range 10 {
		has(t, p, 0, 10-i, i)
		p.Take()
	}
	has(t, p, 0, 0, 10)
	empty(t, p)
	has(t, p, 0, 0, 10)
}

func TestNoBytes(t *testing.T) {
	// There is room for none of them in a full pipe, too.
	p := New(2)
	for range 3 {
		send(t, p, "", "")
		inject(t, p, "", "")
		has(t, p, 0, 0, 2)
	}
	send(t, p, "ab", "")
	inject(t, p, "")
	has(t, p, 2, 0, 0)
	deliver(t, p, 2)
	send(t, p, "")
	inject(t, p, "")
	has(t, p, 0, 2, 0)
	taken(t, p, sealed("ab", 0)...)
	empty(t, p)
}

func TestClear(t *testing.T) {
	for came := range 4 {
		for flies := range 4 {
			p := New(8)
			send(t, p, "01")
			deliver(t, p, 2)
			p.Take()
			p.Take()
			send(t, p, "abcdefgh"[:came+flies])
			deliver(t, p, came)
			inject(t, p, "xy")
			for range 3 {
				p.Clear()
				has(t, p, 0, 0, 8)
				empty(t, p)
				if got := p.Deliver(9); got != 0 {
					t.Fatal(got)
				}
			}
			// Seals begin anew, and there is room for as much as ever.
			send(t, p, "abcdefgh")
			if p.Send("i") {
				t.Fatal("too much")
			}
			deliver(t, p, 8)
			taken(t, p, sealed("abcdefgh", 0)...)
			empty(t, p)
		}
	}
}

func TestClearANewOne(t *testing.T) {
	for _, most := range []int{-1, 0, 1, 2, 1000, 2048, 2049} {
		p := New(most)
		p.Clear()
		n := min(max(most, 1), 2048)
		has(t, p, 0, 0, n)
		text := strings.Repeat("q", n)
		send(t, p, text)
		deliver(t, p, n)
		taken(t, p, sealed(text, 0)...)
	}
}

func TestNoPipe(t *testing.T) {
	var none *Pipe
	for range 3 {
		for _, s := range []string{"", "a", "abc", strings.Repeat("x", 5000)} {
			if none.Send(s) || none.Inject(s) {
				t.Fatalf("%.20q", s)
			}
		}
		for _, n := range append(far, -1, 0, 1, 2) {
			if got := none.Deliver(n); got != 0 {
				t.Fatal(n, got)
			}
		}
		none.Clear()
		has(t, none, 0, 0, 0)
		empty(t, none)
	}
}

func TestTheZeroPipe(t *testing.T) {
	// The chapter says nothing of it; it is one without room.
	var p Pipe
	for range 2 {
		has(t, &p, 0, 0, 0)
		if p.Send("a") || p.Inject("a") || p.Deliver(1) != 0 {
			t.Fatal("it has room")
		}
		send(t, &p, "")
		inject(t, &p, "")
		empty(t, &p)
		p.Clear()
	}
}

func TestFullAtEachPlace(t *testing.T) {
	// A pipe of each size is filled from each of its places on, what is put in among it.
	for most := 1; most <= 8; most++ {
		for first := range 2100 {
			if first > 20 && first < 2030 {
				continue
			}
			p, want := New(most), &plain{most: most}
			for range first {
				p.Send("-")
				p.Deliver(1)
				p.Take()
			}
			want.sent = strings.Repeat("-", first)
			for came := range most {
				s := "abcdefgh"[:came]
				send(t, p, s)
				want.send(s)
				deliver(t, p, came/2)
				want.deliver(came / 2)
				s = "stuvwxyz"[:most-came]
				inject(t, p, s)
				want.inject(s)
				has(t, p, len(want.flies), len(want.came), 0)
				deliver(t, p, len(want.flies))
				want.deliver(most)
				taken(t, p, want.came...)
				empty(t, p)
				want.came = nil
			}
		}
	}
}

func TestWhatIsSentIsTaken(t *testing.T) {
	// In the same order, with nothing lost or put in, through pipes of any size.
	d := dice(222)
	for _, most := range []int{1, 2, 3, 7, 64, 1000, 2047, 2048} {
		p := New(most)
		var sent, got []byte
		state := sum.New()
		for range 3000 {
			s := d.text(d.next() % (most + 2))
			if p.Send(s) {
				sent = append(sent, s...)
			}
			p.Deliver(d.next() % (most + 1))
			for range d.next() % (most + 1) {
				b, ok := p.Take()
				if !ok {
					break
				}
				state = state.Byte(b.B)
				if !b.Sealed || b.Seal != state.Sum() {
					t.Fatalf("of %d: byte %d: %v", most, len(got), b)
				}
				got = append(got, b.B)
			}
			if p.Flies()+p.Came() != len(sent)-len(got) {
				t.Fatal(most, p.Flies(), p.Came(), len(sent), len(got))
			}
		}
		p.Deliver(most)
		for b, ok := p.Take(); ok; b, ok = p.Take() {
			got = append(got, b.B)
		}
		if string(got) != string(sent) || len(sent) < 500 {
			t.Fatalf("of %d: %d bytes sent, %d taken", most, len(sent), len(got))
		}
	}
}

func TestNothingIsKeptOfTexts(t *testing.T) {
	raw := []byte("abcd")
	s := unsafe.String(&raw[0], len(raw))
	p := New(10)
	send(t, p, s)
	inject(t, p, s)
	if string(raw) != "abcd" {
		t.Fatalf("%q", raw)
	}
	clear(raw)
	deliver(t, p, 4)
	taken(t, p, put("abcd")...)
	taken(t, p, sealed("abcd", 0)...)
}

func TestPipesGoOnByThemselves(t *testing.T) {
	p, q := New(10), New(10)
	send(t, p, "abc")
	send(t, q, "xy")
	deliver(t, p, 2)
	c := *p
	send(t, &c, "d")
	inject(t, &c, "-")
	deliver(t, &c, 2)
	has(t, p, 1, 2, 7)
	has(t, q, 2, 0, 8)
	has(t, &c, 0, 5, 5)
	send(t, p, "efg")
	deliver(t, p, 4)
	taken(t, p, sealed("abcefg", 0)...)
	taken(t, &c, sealed("ab", 0)...)
	taken(t, &c, put("-")...)
	taken(t, &c, sealed("abcd", 2)...)
	c.Clear()
	has(t, q, 2, 0, 8)
	deliver(t, q, 2)
	taken(t, q, sealed("xy", 0)...)
}

// done does what the bytes of acts say with a pipe and a plain one, and fails if they answer otherwise.
// The first byte tells the size; then two bytes are an act: what it is, and of how many bytes.
func done(t *testing.T, acts []byte) {
	t.Helper()
	if len(acts) == 0 {
		return
	}
	most := 1 + int(acts[0])%40
	p, want := New(most), &plain{most: most}
	for i := 1; i+1 < len(acts) && i < 1500; i += 2 {
		act, n := acts[i]%16, int(acts[i+1])%48
		s := string(acts[i : i+2])
		s = strings.Repeat(s, n/2+1)[:n]
		var got, answer string
		switch {
		case act < 5:
			got, answer = fmt.Sprint("Send ", p.Send(s)), fmt.Sprint("Send ", want.send(s))
		case act < 8:
			got, answer = fmt.Sprint("Deliver ", p.Deliver(n-8)), fmt.Sprint("Deliver ", want.deliver(n-8))
		case act < 10:
			got, answer = fmt.Sprint("Inject ", p.Inject(s)), fmt.Sprint("Inject ", want.inject(s))
		case act < 15:
			for range n % 10 {
				b, ok := p.Take()
				c, wantOk := want.take()
				got, answer = got+fmt.Sprint("Take ", b, ok), answer+fmt.Sprint("Take ", c, wantOk)
			}
		case n < 5:
			p.Clear()
			want = &plain{most: most}
		}
		if got != answer {
			t.Fatalf("act %d: %s, not %s", i/2, got, answer)
		}
		has(t, p, len(want.flies), len(want.came), want.room())
	}
	p.Deliver(most)
	want.deliver(most)
	taken(t, p, want.came...)
	empty(t, p)
}

func TestAnyActs(t *testing.T) {
	d := dice(2222)
	for range 500 {
		done(t, []byte(d.text(1+d.next()%500)))
	}
}

func FuzzPipe(f *testing.F) {
	f.Add([]byte{9, 0, 2, 5, 9, 10, 1})
	f.Add([]byte{3, 0, 4, 5, 10, 8, 2, 0, 1, 10, 9, 15, 0, 0, 4})
	f.Add([]byte{0, 0, 1, 8, 1, 5, 9, 8, 0, 10, 3})
	f.Fuzz(done)
}
