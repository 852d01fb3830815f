package link

import (
	"fmt"
	"math"
	"slices"
	"strings"
	"testing"

	"pemmican/api"
	"pemmican/pipe"
	"pemmican/sum"
)

// A dice gives the same numbers in every run.
type dice uint64

func (d *dice) next() int {
	*d = *d*6364136223846793005 + 1442695040888963407
	return int(*d >> 33)
}

// text gives n bytes.
func (d *dice) text(n int) string {
	b := make([]byte, n)
	for i := range b {
		b[i] = byte(d.next())
	}
	return string(b)
}

// far are numbers beyond all that a pipe may have, above and below.
var far = []int{math.MinInt, math.MinInt + 1, -1 << 32, math.MinInt32, -2049, -2048, 2049, 4096, math.MaxInt32, 1 << 32, 1<<32 + 1, math.MaxInt - 1, math.MaxInt}

// join joins the link, and fails if it isn't up then, of the generation.
func join(t *testing.T, l *Link, gen int) {
	t.Helper()
	if !l.Join() || !l.Up() || l.Gen() != gen || l.To() == nil || l.From() == nil || !l.Idle() {
		t.Fatalf("Join: up %v, of %d (not %d), %p, %p, idle %v", l.Up(), l.Gen(), gen, l.To(), l.From(), l.Idle())
	}
}

// cut cuts the link, and fails if it isn't down then.
func cut(t *testing.T, l *Link, gen int) {
	t.Helper()
	if !l.Cut() {
		t.Fatal("Cut")
	}
	down(t, l, gen)
}

// down fails if the link is up, was joined another number of times, or hands a pipe out.
func down(t *testing.T, l *Link, gen int) {
	t.Helper()
	if l.Up() || l.Gen() != gen || l.To() != nil || l.From() != nil || !l.Idle() {
		t.Fatalf("up %v, of %d (not %d), %p, %p, idle %v", l.Up(), l.Gen(), gen, l.To(), l.From(), l.Idle())
	}
}

// has fails if other numbers of bytes fly, came, or may be there yet.
func has(t *testing.T, p *pipe.Pipe, flies, came, room int) {
	t.Helper()
	if p.Flies() != flies || p.Came() != came || p.Room() != room {
		t.Fatalf("%d fly, %d came, room for %d; not %d, %d, %d", p.Flies(), p.Came(), p.Room(), flies, came, room)
	}
}

// fill puts bytes in, and sends others, of which some come and some fly.
func fill(t *testing.T, p *pipe.Pipe, put, came, flies string) {
	t.Helper()
	if !p.Inject(put) || !p.Send(came+flies) || p.Deliver(len(came)) != len(came) {
		t.Fatalf("there is no room for %.20q, %.20q, %.20q", put, came, flies)
	}
}

// taken takes the bytes of s, which is all that was sent, and fails if others come, other seals, or more.
func taken(t *testing.T, p *pipe.Pipe, s string) {
	t.Helper()
	for i := range s {
		if b, ok := p.Take(); !ok || b != (pipe.Byte{B: s[i], Seal: sum.Of(s[:i+1]), Sealed: true}) {
			t.Fatalf("byte %d of %.20q: %v, %v", i, s, b, ok)
		}
	}
	if b, ok := p.Take(); ok || b != (pipe.Byte{}) {
		t.Fatal("one more:", b, ok)
	}
}

func TestExample(t *testing.T) {
	l := New(10)
	if a, b := l.Join(), l.Join(); !a || b {
		t.Fatal(a, b)
	}
}

func TestLimits(t *testing.T) {
	if api.MaxWire != 2048 {
		t.Fatal(api.MaxWire)
	}
}

func TestDownAtFirst(t *testing.T) {
	for _, most := range append(far, -1, 0, 1, 2, 1000, 2047, 2048) {
		l := New(most)
		down(t, l, 0)
		for range 3 {
			if l.Cut() {
				t.Fatal("it is cut though it is down")
			}
			down(t, l, 0)
		}
		join(t, l, 1)
	}
}

func TestEachMost(t *testing.T) {
	// Both pipes have as much room in each generation.
	mosts := slices.Clone(far)
	for n := -3; n <= 2052; n++ {
		mosts = append(mosts, n)
	}
	for _, most := range mosts {
		n := min(max(most, 1), 2048)
		l := New(most)
		for gen := 1; gen <= 3; gen++ {
			join(t, l, gen)
			for _, p := range []*pipe.Pipe{l.To(), l.From()} {
				has(t, p, 0, 0, n)
				text := strings.Repeat("x", n)
				if p.Send(text+"y") || !p.Send(text) || p.Send("y") {
					t.Fatalf("New(%d), of generation %d: not room for %d", most, gen, n)
				}
				has(t, p, n, 0, 0)
			}
			cut(t, l, gen)
		}
	}
}

func TestGenerations(t *testing.T) {
	l := New(5)
	for gen := 1; gen <= 3000; gen++ {
		join(t, l, gen)
		for range gen % 3 {
			if l.Join() || !l.Up() || l.Gen() != gen {
				t.Fatal("joined, though it is up:", gen, l.Gen())
			}
		}
		cut(t, l, gen)
		for range gen % 4 {
			if l.Cut() {
				t.Fatal("cut, though it is down:", gen)
			}
			down(t, l, gen)
		}
	}
}

func TestRefusedJoin(t *testing.T) {
	// All that is on its way stays, and so do the seals.
	l := New(20)
	join(t, l, 1)
	fill(t, l.To(), "", "ab", "c")
	fill(t, l.From(), "", "uvw", "xyz")
	for range 3 {
		if l.Join() || !l.Up() || l.Gen() != 1 || l.Idle() {
			t.Fatal("it is joined though it is up")
		}
		has(t, l.To(), 1, 2, 17)
		has(t, l.From(), 3, 3, 14)
	}
	l.To().Send("de")
	l.To().Deliver(9)
	l.From().Deliver(9)
	taken(t, l.To(), "abcde")
	taken(t, l.From(), "uvwxyz")
}

func TestRefusedCut(t *testing.T) {
	// It changes nothing in a pipe that was handed out ahead, either.
	l := New(20)
	join(t, l, 1)
	to, from := l.To(), l.From()
	cut(t, l, 1)
	fill(t, to, "", "ab", "c")
	fill(t, from, "", "d", "efgh")
	for range 3 {
		if l.Cut() {
			t.Fatal("it is cut though it is down")
		}
		down(t, l, 1)
		has(t, to, 1, 2, 17)
		has(t, from, 4, 1, 15)
	}
}

func TestPipes(t *testing.T) {
	// They are two; each is the same one as long as the link is up.
	l := New(20)
	join(t, l, 1)
	to, from := l.To(), l.From()
	if to == from {
		t.Fatal("one pipe")
	}
	fill(t, l.To(), "", "abc", "d")
	has(t, l.From(), 0, 0, 20)
	fill(t, l.From(), "", "x", "yz")
	has(t, l.To(), 1, 3, 16)
	for range 3 {
		if l.To() != to || l.From() != from {
			t.Fatal("another pipe")
		}
	}
	to.Deliver(1)
	from.Deliver(2)
	taken(t, l.From(), "xyz")
	taken(t, l.To(), "abcd")
}

func TestCutClears(t *testing.T) {
	// Whatever flies, came, or was put in, in one pipe or both.
	for _, s := range [][2]string{{"", ""}, {"a", ""}, {"", "a"}, {"ab", "cd"}, {"abcdefg", "hijklmn"}} {
		for _, put := range []string{"", "-", "----"} {
			for which := range 4 {
				l := New(18)
				join(t, l, 1)
				to, from := l.To(), l.From()
				if which&1 == 0 {
					fill(t, to, put, s[0], s[1])
				}
				if which&2 == 0 {
					fill(t, from, put, s[0], s[1])
				}
				cut(t, l, 1)
				has(t, to, 0, 0, 18)
				has(t, from, 0, 0, 18)
				taken(t, to, "")
				taken(t, from, "")
				join(t, l, 2)
				has(t, l.To(), 0, 0, 18)
				has(t, l.From(), 0, 0, 18)
				taken(t, l.To(), "")
				taken(t, l.From(), "")
			}
		}
	}
}

func TestJoinClears(t *testing.T) {
	// What was sent, or put in, while the link was down, by a pipe that was handed out ahead, is gone.
	for which := range 4 {
		l := New(18)
		join(t, l, 1)
		to, from := l.To(), l.From()
		cut(t, l, 1)
		if which&1 == 0 {
			fill(t, to, "--", "ab", "cd")
		}
		if which&2 == 0 {
			fill(t, from, "--", "ab", "cd")
		}
		down(t, l, 1)
		join(t, l, 2)
		for _, p := range []*pipe.Pipe{l.To(), l.From()} {
			has(t, p, 0, 0, 18)
			taken(t, p, "")
			fill(t, p, "", "xy", "")
			taken(t, p, "xy")
		}
	}
}

func TestSealsBeginAnew(t *testing.T) {
	l := New(2048)
	for gen := 1; gen <= 20; gen++ {
		join(t, l, gen)
		for i, p := range []*pipe.Pipe{l.To(), l.From()} {
			text := strings.Repeat(string(rune('a'+gen+i)), gen*i+5)
			fill(t, p, "", text, "")
			taken(t, p, text)
			fill(t, p, "-", "left", "behind")
		}
		cut(t, l, gen)
	}
}

func TestIdle(t *testing.T) {
	// Each pipe counts, and both what flies and what came in it.
	for i := range 16 {
		l := New(10)
		join(t, l, 1)
		for j, p := range []*pipe.Pipe{l.To(), l.From()} {
			bits := i >> (2 * j)
			fill(t, p, "", "a"[:bits&1], "b"[:bits>>1&1])
		}
		if l.Idle() != (i == 0) {
			t.Fatalf("%04b: %v", i, l.Idle())
		}
		l.To().Deliver(2)
		l.From().Deliver(2)
		if l.Idle() != (i == 0) {
			t.Fatalf("%04b, all having come: %v", i, l.Idle())
		}
		for _, p := range []*pipe.Pipe{l.From(), l.To()} {
			for range p.Came() {
				if l.Idle() {
					t.Fatalf("%04b: idle ahead of the last byte's being taken", i)
				}
				p.Take()
			}
		}
		if !l.Idle() {
			t.Fatalf("%04b: not idle, all being taken", i)
		}
	}
}

func TestIdleOfWhatIsPutIn(t *testing.T) {
	for i := range 2 {
		l := New(10)
		join(t, l, 1)
		p := []*pipe.Pipe{l.To(), l.From()}[i]
		p.Inject("")
		p.Send("")
		if !l.Idle() {
			t.Fatal("nothing was put in, or sent")
		}
		p.Inject("x")
		if l.Idle() {
			t.Fatal("a byte was put in")
		}
		p.Take()
		if !l.Idle() {
			t.Fatal("it was taken")
		}
		p.Inject("x")
		cut(t, l, 1)
		// Down it is idle, whatever is done with a pipe that was handed out ahead.
		p.Inject("x")
		p.Send("yz")
		if !l.Idle() {
			t.Fatal("it is down")
		}
	}
}

func TestNoLink(t *testing.T) {
	var none *Link
	for range 3 {
		if none.Join() || none.Cut() {
			t.Fatal("there is no link")
		}
		down(t, none, 0)
	}
}

func TestTheZeroLink(t *testing.T) {
	// The chapter says nothing of it; it comes and goes, and its pipes are without room.
	var l Link
	down(t, &l, 0)
	if l.Cut() {
		t.Fatal("it is cut though it is down")
	}
	for gen := 1; gen <= 3; gen++ {
		join(t, &l, gen)
		if l.Join() || l.To().Send("a") || l.From().Inject("a") {
			t.Fatal("it has room, or is joined twice")
		}
		has(t, l.To(), 0, 0, 0)
		has(t, l.From(), 0, 0, 0)
		cut(t, &l, gen)
	}
}

func TestLinksGoOnByThemselves(t *testing.T) {
	l, m := New(20), New(10)
	join(t, l, 1)
	join(t, m, 1)
	fill(t, l.To(), "", "ab", "c")
	fill(t, l.From(), "", "x", "yz")
	fill(t, m.To(), "", "0", "1")
	c := *l
	cut(t, l, 1)
	has(t, c.To(), 1, 2, 17)
	has(t, c.From(), 2, 1, 17)
	has(t, m.To(), 1, 1, 8)
	join(t, l, 2)
	fill(t, l.To(), "", "new", "")
	c.To().Deliver(1)
	c.From().Deliver(2)
	if c.Gen() != 1 || !c.Up() || m.Gen() != 1 || !m.Up() {
		t.Fatal(c.Gen(), c.Up(), m.Gen(), m.Up())
	}
	taken(t, c.To(), "abc")
	taken(t, c.From(), "xyz")
	cut(t, &c, 1)
	taken(t, l.To(), "new")
	m.To().Deliver(1)
	taken(t, m.To(), "01")
}

func TestNothingOfAnotherGenerationIsTaken(t *testing.T) {
	// Each byte that is sent tells its generation, as far as a byte can; pipes handed out ahead are used as well.
	d := dice(23)
	for _, most := range []int{1, 2, 7, 100, 2048} {
		l := New(most)
		var held []*pipe.Pipe
		cuts, took := 0, 0
		for range 30000 {
			switch n := d.next() % 40; {
			case n == 0:
				if l.Cut() {
					cuts++
				}
			case n < 4:
				if l.Join() {
					held = append(held, l.To(), l.From())[max(len(held)-4, 0):]
				}
			case len(held) == 0:
			case n < 15:
				// What is sent while it is down is of no generation.
				b := byte(l.Gen())
				if !l.Up() {
					b = byte(l.Gen() + 128)
				}
				held[n%len(held)].Send(strings.Repeat(string([]byte{b}), d.next()%(most+1)))
			case n < 25:
				held[n%len(held)].Deliver(d.next() % (most + 1))
			case l.Up():
				p := []*pipe.Pipe{l.To(), l.From()}[n%2]
				if b, ok := p.Take(); ok {
					took++
					if b.B != byte(l.Gen()) {
						t.Fatalf("of %d: a byte of generation %d is taken in generation %d", most, b.B, byte(l.Gen()))
					}
				}
			}
		}
		if cuts < 300 || took < 300 {
			t.Fatalf("of %d: %d times cut, %d bytes taken", most, cuts, took)
		}
	}
}

// A plain link has of each pipe how many bytes fly, and what came, and forgets both whenever it comes or goes.
type plain struct {
	most  int
	up    bool
	gen   int
	flies [2]string
	came  [2]string
}

func (l *plain) turn(up bool) bool {
	if l.up == up {
		return false
	}
	l.up = up
	if up {
		l.gen++
	}
	l.flies, l.came = [2]string{}, [2]string{}
	return true
}

func (l *plain) idle() bool {
	return !l.up || l.flies == [2]string{} && l.came == [2]string{}
}

func (l *plain) room(i int) int {
	if !l.up {
		return 0
	}
	return l.most - len(l.flies[i]) - len(l.came[i])
}

func (l *plain) send(i int, s string) bool {
	if !l.up || len(s) > l.room(i) {
		return false
	}
	l.flies[i] += s
	return true
}

func (l *plain) inject(i int, s string) bool {
	if !l.up || len(s) > l.room(i) {
		return false
	}
	l.came[i] += s
	return true
}

func (l *plain) deliver(i, n int) int {
	n = min(max(n, 0), len(l.flies[i]))
	l.came[i] += l.flies[i][:n]
	l.flies[i] = l.flies[i][n:]
	return n
}

func (l *plain) take(i int) (byte, bool) {
	if l.came[i] == "" {
		return 0, false
	}
	b := l.came[i][0]
	l.came[i] = l.came[i][1:]
	return b, true
}

// alike fails if the link answers otherwise than the plain one.
func alike(t *testing.T, l *Link, want *plain) {
	t.Helper()
	if l.Up() != want.up || l.Gen() != want.gen || l.Idle() != want.idle() || (l.To() != nil) != want.up || (l.From() != nil) != want.up {
		t.Fatalf("up %v, of %d, idle %v; not %v, %d, %v", l.Up(), l.Gen(), l.Idle(), want.up, want.gen, want.idle())
	}
	has(t, l.To(), len(want.flies[0]), len(want.came[0]), want.room(0))
	has(t, l.From(), len(want.flies[1]), len(want.came[1]), want.room(1))
}

// done does what the bytes of acts say with a link and a plain one, and fails if they answer otherwise.
// The first byte tells the size; then two bytes are an act: what it is, and of how many bytes.
func done(t *testing.T, acts []byte) {
	t.Helper()
	if len(acts) == 0 {
		return
	}
	most := 1 + int(acts[0])%40
	l, want := New(most), &plain{most: most}
	for i := 1; i+1 < len(acts) && i < 1500; i += 2 {
		act, n := acts[i]%16, int(acts[i+1])%48
		s := strings.Repeat(string(acts[i:i+2]), n/2+1)[:n]
		which := int(acts[i]) >> 4 % 2
		p := []*pipe.Pipe{l.To(), l.From()}[which]
		var got, answer string
		switch {
		case act == 0:
			got, answer = fmt.Sprint("Cut ", l.Cut()), fmt.Sprint("Cut ", want.turn(false))
		case act < 3:
			got, answer = fmt.Sprint("Join ", l.Join()), fmt.Sprint("Join ", want.turn(true))
		case act < 6:
			got, answer = fmt.Sprint("Send ", p.Send(s)), fmt.Sprint("Send ", want.send(which, s))
		case act < 10:
			got, answer = fmt.Sprint("Deliver ", p.Deliver(n-8)), fmt.Sprint("Deliver ", want.deliver(which, n-8))
		case act < 11:
			got, answer = fmt.Sprint("Inject ", p.Inject(s)), fmt.Sprint("Inject ", want.inject(which, s))
		default:
			for range n % 10 {
				b, ok := p.Take()
				c, wantOk := want.take(which)
				got, answer = got+fmt.Sprint("Take ", b.B, ok), answer+fmt.Sprint("Take ", c, wantOk)
			}
		}
		if got != answer {
			t.Fatalf("act %d: %s, not %s", i/2, got, answer)
		}
		alike(t, l, want)
	}
}

func TestAnyActs(t *testing.T) {
	d := dice(2323)
	for range 1000 {
		done(t, []byte(d.text(1+d.next()%700)))
	}
}

func FuzzLink(f *testing.F) {
	f.Add([]byte{9, 1, 0, 3, 4, 6, 9, 11, 1})
	f.Add([]byte{3, 1, 0, 3, 2, 0, 0, 1, 0, 11, 9, 19, 2, 22, 10, 27, 2})
	f.Add([]byte{0, 1, 0, 10, 1, 1, 0, 0, 0, 0, 0, 26, 1})
	f.Fuzz(done)
}
