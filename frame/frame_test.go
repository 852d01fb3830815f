package frame

import (
	"encoding/binary"
	"fmt"
	"math"
	"slices"
	"strings"
	"testing"
	"unsafe"

	"pemmican/api"
	"pemmican/pipe"
)

// A dice gives the same numbers in every run.
type dice uint64

func (d *dice) next() int {
	*d = *d*6364136223846793005 + 1442695040888963407
	return int(*d >> 33)
}

// text gives n bytes.
func (d *dice) text(n int) string {
	b := make([]byte, n)
	for i := range b {
		b[i] = byte(d.next())
	}
	return string(b)
}

// frame gives one that may be, now and then of no bytes, or of as many as may be.
func (d *dice) frame() api.Frame {
	n := d.next() % 40
	switch d.next() % 10 {
	case 0:
		n = 0
	case 1:
		n = 900 - d.next()%3
	case 2:
		n = d.next() % 901
	}
	return api.Frame{Kind: 1 + d.next()%10, Body: d.text(n)}
}

// plainSum is the sum of layer 4, written anew from its chapter.
func plainSum(s string) uint64 {
	h, n := uint64(0x6A09E667F3BCC908), uint64(0)
	for _, c := range []byte(s) {
		h = (h ^ uint64(c)) * 0x9E3779B97F4A7C15
		h ^= h >> 29
		n++
	}
	v := (h + n) * 0xBF58476D1CE4E5B9
	return v ^ v>>32
}

// closed answers s with its sum behind it.
func closed(s string) string {
	return string(binary.LittleEndian.AppendUint64([]byte(s), plainSum(s)))
}

// head answers the kind and the number of bytes that a frame tells, as far as they go into its bytes.
func head(kind, n int) string {
	return string([]byte{byte(kind), byte(n), byte(n >> 8)})
}

// plainBytes answers the bytes of a frame, be it one that may be or not.
func plainBytes(f api.Frame) string {
	return closed(head(f.Kind, len(f.Body)) + f.Body)
}

// all answers the bytes of frames, one behind the other.
func all(frames []api.Frame) string {
	var s string
	for _, f := range frames {
		s += plainBytes(f)
	}
	return s
}

// plainSplit cuts frames out of s byte by byte, without the layers below.
func plainSplit(s string) ([]api.Frame, string, api.Errno) {
	var frames []api.Frame
	from := 0
	for i := range len(s) {
		b := s[from : i+1]
		if b[0] < 1 || b[0] > 10 {
			return frames, "", api.ErrKind
		}
		if len(b) < 3 {
			continue
		}
		n := int(b[1]) | int(b[2])<<8
		if n > 900 {
			return frames, "", api.ErrLong
		}
		if len(b) < n+11 {
			continue
		}
		if closed(b[:n+3]) != b {
			return frames, "", api.ErrSum
		}
		frames = append(frames, api.Frame{Kind: int(b[0]), Body: b[3 : n+3]})
		from = i + 1
	}
	return frames, s[from:], api.OK
}

// A plain cutter has all bytes that were fed, and cuts those behind the last frame anew at each byte.
type plain struct {
	fed    string
	from   int
	frames int
	err    api.Errno
}

func (p *plain) feed(b pipe.Byte) (api.Frame, bool, api.Errno) {
	if p.err != api.OK {
		return api.Frame{}, false, p.err
	}
	p.fed += string([]byte{b.B})
	frames, _, err := plainSplit(p.fed[p.from:])
	if err == api.OK && len(frames) > 0 && (!b.Sealed || b.Seal != plainSum(p.fed)) {
		err = api.ErrSum
	}
	if err != api.OK || len(frames) == 0 {
		p.err = err
		return api.Frame{}, false, err
	}
	p.from = len(p.fed)
	p.frames++
	return frames[0], true, api.OK
}

// far are numbers that are none of a kind, near and far.
var far = []int{math.MinInt, math.MinInt + 1, -1 << 32, -1<<32 + 1, math.MinInt32, -256, -255, -10, -1, 0, 11, 12, 127, 128, 255, 256, 257, 266, 65537, math.MaxInt32, 1 << 32, 1<<32 + 1, 1<<62 + 1, math.MaxInt - 1, math.MaxInt}

// sealed are the bytes of s with their seals, ahead having been sent before.
func sealed(ahead, s string) []pipe.Byte {
	l := make([]pipe.Byte, len(s))
	for i := range l {
		l[i] = pipe.Byte{B: s[i], Seal: plainSum(ahead + s[:i+1]), Sealed: true}
	}
	return l
}

// bare are the bytes of s without seals.
func bare(s string) []pipe.Byte {
	l := make([]pipe.Byte, len(s))
	for i := range l {
		l[i] = pipe.Byte{B: s[i]}
	}
	return l
}

// knows fails if the cutter tells another number of bytes, or another error.
func knows(t *testing.T, c *Cutter, count int, err api.Errno) {
	t.Helper()
	if c.Count() != count || c.Err() != err {
		t.Fatalf("%d bytes, error %d; not %d, %d", c.Count(), c.Err(), count, err)
	}
}

// quiet feeds bytes, and fails if one of them is the last one of a frame, or is refused.
func quiet(t *testing.T, c *Cutter, bytes []pipe.Byte) {
	t.Helper()
	count := c.Count()
	for i, b := range bytes {
		if f, ok, err := c.Feed(b); f != (api.Frame{}) || ok || err != api.OK {
			t.Fatalf("byte %d of %d: %.40v, %v, %d", i, len(bytes), f, ok, err)
		}
		knows(t, c, count+i+1, api.OK)
	}
}

// whole feeds a byte, and fails if it isn't the last one of that frame.
func whole(t *testing.T, c *Cutter, b pipe.Byte, want api.Frame) {
	t.Helper()
	count := c.Count()
	if f, ok, err := c.Feed(b); f != want || !ok || err != api.OK {
		t.Fatalf("the last byte of %.40v: %.40v, %v, %d", want, f, ok, err)
	}
	knows(t, c, count+1, api.OK)
}

// takes feeds the bytes of frames, behind those that were sent ahead, and fails if they don't come out of it.
func takes(t *testing.T, c *Cutter, ahead string, frames ...api.Frame) {
	t.Helper()
	for _, f := range frames {
		s := plainBytes(f)
		bytes := sealed(ahead, s)
		quiet(t, c, bytes[:len(s)-1])
		whole(t, c, bytes[len(s)-1], f)
		ahead += s
	}
}

// refuses feeds a byte, and fails if it isn't refused by that error, or what is fed behind it isn't.
func refuses(t *testing.T, c *Cutter, b pipe.Byte, want api.Errno) {
	t.Helper()
	count := c.Count() + 1
	if f, ok, err := c.Feed(b); f != (api.Frame{}) || ok || err != want {
		t.Fatalf("%v: %.40v, %v, %d; not %d", b, f, ok, err, want)
	}
	knows(t, c, count, want)
	for _, next := range append(sealed("", plainBytes(api.Frame{Kind: api.End})), pipe.Byte{}, pipe.Byte{B: 1}, pipe.Byte{B: 11}, b) {
		if f, ok, err := c.Feed(next); f != (api.Frame{}) || ok || err != want {
			t.Fatalf("behind the error %d: %.40v, %v, %d", want, f, ok, err)
		}
		knows(t, c, count, want)
	}
}

// splits fails if other frames are cut out of s, something else is left, or there is another error.
func splits(t *testing.T, s string, frames []api.Frame, left string, want api.Errno) {
	t.Helper()
	got, rest, err := Split(s)
	if !slices.Equal(got, frames) || rest != left || err != want {
		t.Fatalf("Split(%.40q): %.90v, %.40q, %d; not %.90v, %.40q, %d", s, got, rest, err, frames, left, want)
	}
}

func TestExample(t *testing.T) {
	for kind := api.Hello; kind <= api.End; kind++ {
		s, err := Encode(api.Frame{Kind: kind})
		if len(s) != 11 || err != api.OK {
			t.Errorf("a frame of kind %d without body: %d bytes, %d", kind, len(s), err)
		}
	}
}

func TestLimits(t *testing.T) {
	if api.MaxFrame != 900 || api.Hello != 1 || api.End != 10 {
		t.Fatal(api.MaxFrame, api.Hello, api.End)
	}
}

func TestBytesWorkedOut(t *testing.T) {
	dots, noughts := strings.Repeat(".", 300), strings.Repeat("\x00", 900)
	for s, f := range map[string]api.Frame{
		"\x01\x00\x00\x3C\x68\xDC\x36\xA9\xA7\x20\x45":                {Kind: api.Hello},
		"\x04\x01\x00\x03\x6E\x60\x2D\xF6\xFC\x3F\x18\x6F":            {Kind: api.Ack, Body: "\x03"},
		"\x06\x02\x00ab\x13\x62\x2F\xAE\xF4\x6F\x56\xAE":              {Kind: api.Record, Body: "ab"},
		"\x0A\x00\x00\xEB\xF5\xB5\x43\x74\x51\xF3\x61":                {Kind: api.End},
		"\x09\x2C\x01" + dots + "\x44\x18\xE6\x23\x42\x62\xFB\xEE":    {Kind: api.Chunk, Body: dots},
		"\x02\x84\x03" + noughts + "\x5A\x58\x2A\x3F\xE7\x8C\x1F\xC8": {Kind: api.Welcome, Body: noughts},
	} {
		if got, err := Encode(f); got != s || err != api.OK {
			t.Errorf("Encode(%.40v): %q, %d; not %q", f, got, err, s)
		}
		splits(t, s, []api.Frame{f}, "", api.OK)
		takes(t, New(), "", f)
	}
}

func TestSealsWorkedOut(t *testing.T) {
	// The second frame's is of both frames' bytes.
	c := New()
	first, second := "\x01\x00\x00\x3C\x68\xDC\x36\xA9\xA7\x20\x45", "\x04\x01\x00\x03\x6E\x60\x2D\xF6\xFC\x3F\x18\x6F"
	quiet(t, c, bare(first[:10]))
	whole(t, c, pipe.Byte{B: 0x45, Seal: 0xD292F10C079CFC1E, Sealed: true}, api.Frame{Kind: api.Hello})
	quiet(t, c, bare(second[:11]))
	alone := *c
	whole(t, c, pipe.Byte{B: 0x6F, Seal: 0x05606FE47A9A009C, Sealed: true}, api.Frame{Kind: api.Ack, Body: "\x03"})
	refuses(t, &alone, pipe.Byte{B: 0x6F, Seal: 0xF40D0A0D8EDD91F8, Sealed: true}, api.ErrSum)
}

func TestEachKindAndLength(t *testing.T) {
	d := dice(24)
	for n := range 901 {
		body := d.text(n)
		for kind := 1; kind <= 10; kind++ {
			f := api.Frame{Kind: kind, Body: body}
			s, err := Encode(f)
			if s != plainBytes(f) || err != api.OK || len(s) != n+11 {
				t.Fatalf("Encode of kind %d, %d bytes: %d bytes, %d", kind, n, len(s), err)
			}
			splits(t, s, []api.Frame{f}, "", api.OK)
			c := New()
			quiet(t, c, bare(s[:n+10]))
			whole(t, c, pipe.Byte{B: s[n+10], Seal: plainSum(s), Sealed: true}, f)
		}
	}
}

func TestFramesThatMayNotBe(t *testing.T) {
	bodies := []int{0, 1, 900, 901, 902, 1024, 65535, 65536, 65537, 65536 + 900, 1 << 20}
	for _, n := range bodies {
		body := strings.Repeat("x", n)
		for _, kind := range far {
			if s, err := Encode(api.Frame{Kind: kind, Body: body}); s != "" || err != api.ErrKind {
				t.Fatalf("of kind %d, %d bytes: %.40q, %d", kind, n, s, err)
			}
		}
		for kind := 1; kind <= 10; kind++ {
			s, err := Encode(api.Frame{Kind: kind, Body: body})
			if n > 900 && (s != "" || err != api.ErrLong) || n <= 900 && err != api.OK {
				t.Fatalf("of kind %d, %d bytes: %.40q, %d", kind, n, s, err)
			}
		}
	}
}

func TestNew(t *testing.T) {
	c := New()
	knows(t, c, 0, api.OK)
	if c == New() {
		t.Fatal("one cutter twice")
	}
}

func TestFrames(t *testing.T) {
	// One behind the other, with nothing between, the longest and the shortest ones too.
	d := dice(240)
	for range 20 {
		var frames []api.Frame
		for range 1 + d.next()%12 {
			frames = append(frames, d.frame())
		}
		frames = append(frames, api.Frame{Kind: 1, Body: d.text(900)}, api.Frame{Kind: 10}, api.Frame{Kind: 10}, api.Frame{Kind: 2, Body: d.text(1)})
		c := New()
		takes(t, c, "", frames...)
		knows(t, c, len(all(frames)), api.OK)
		splits(t, all(frames), frames, "", api.OK)
	}
}

func TestALongWay(t *testing.T) {
	// A seal is of all bytes of a generation, however many there were.
	d := dice(2400)
	p, c := pipe.New(2048), New()
	count := 0
	for i := range 3000 {
		f := d.frame()
		s, err := Encode(f)
		if err != api.OK || !p.Send(s) || p.Deliver(len(s)) != len(s) {
			t.Fatal(i, err)
		}
		for j := range len(s) {
			b, _ := p.Take()
			count++
			got, ok, err := c.Feed(b)
			if last := j == len(s)-1; ok != last || err != api.OK || last && got != f || !last && got != (api.Frame{}) {
				t.Fatalf("frame %d, byte %d: %.40v, %v, %d", i, j, got, ok, err)
			}
		}
		knows(t, c, count, api.OK)
	}
}

func TestAFirstByteThatIsNoKind(t *testing.T) {
	ahead := []api.Frame{{Kind: 3, Body: "abc"}, {Kind: 10}}
	for kind := range 256 {
		b := byte(kind)
		for n := range 3 {
			s := all(ahead[:n])
			c := New()
			takes(t, c, "", ahead[:n]...)
			if kind >= 1 && kind <= 10 {
				quiet(t, c, []pipe.Byte{{B: b}})
				splits(t, s+string([]byte{b}), ahead[:n], string([]byte{b}), api.OK)
				continue
			}
			refuses(t, c, sealed(s, string([]byte{b}))[0], api.ErrKind)
			splits(t, s+string([]byte{b}), ahead[:n], "", api.ErrKind)
			splits(t, s+string([]byte{b, 0, 0, 1, 2, 3, 4, 5, 6, 7, 8}), ahead[:n], "", api.ErrKind)
			// Ahead of too long a body, and of another sum; behind it a right frame is none.
			splits(t, s+string([]byte{b, 255, 255})+all(ahead), ahead[:n], "", api.ErrKind)
			splits(t, s+plainBytes(api.Frame{Kind: kind, Body: "x"})+all(ahead), ahead[:n], "", api.ErrKind)
		}
	}
}

func TestEachNumberThatIsTold(t *testing.T) {
	ahead := []api.Frame{{Kind: 7, Body: "\x05"}}
	before := all(ahead)
	for n := range 1 << 16 {
		kind := 1 + n%10
		h := head(kind, n)
		c := New()
		takes(t, c, "", ahead...)
		bytes := sealed(before, h)
		quiet(t, c, bytes[:2])
		if n <= 900 {
			quiet(t, c, bytes[2:])
			splits(t, before+h, ahead, h, api.OK)
			continue
		}
		refuses(t, c, bytes[2], api.ErrLong)
		splits(t, before+h[:2], ahead, h[:2], api.OK)
		splits(t, before+h, ahead, "", api.ErrLong)
		splits(t, before+h+"12345678"+before, ahead, "", api.ErrLong)
	}
}

func TestTooLongAheadOfAnotherSum(t *testing.T) {
	for _, n := range []int{901, 1000, 65535} {
		s := plainBytes(api.Frame{Kind: 6, Body: strings.Repeat("x", n)})
		splits(t, s, nil, "", api.ErrLong)
		splits(t, s[:n+10]+"-", nil, "", api.ErrLong)
	}
}

func TestEachBitTurned(t *testing.T) {
	// The seals are of what comes, so that only the frame's own sum tells.
	ahead := []api.Frame{{Kind: 5, Body: "\x09"}}
	before := all(ahead)
	for _, f := range []api.Frame{{Kind: 6, Body: "some bytes"}, {Kind: 10}, {Kind: 1, Body: "\x00"}} {
		s := plainBytes(f)
		for i := range 8 * len(s) {
			raw := []byte(s)
			raw[i/8] ^= 1 << (i % 8)
			turned := string(raw)
			frames, left, err := plainSplit(before + turned)
			if i >= 24 && err != api.ErrSum {
				t.Fatal("a turned bit of the body, or the sum:", i, err)
			}
			splits(t, before+turned, frames, left, err)
			c, want := New(), &plain{}
			feeds(t, c, want, sealed("", before+turned))
		}
	}
}

func TestAnotherSum(t *testing.T) {
	// As of other bytes, of fewer, of the body alone, or the same bytes in another order.
	f := api.Frame{Kind: 6, Body: "a body"}
	s := plainBytes(f)
	h := s[:len(s)-8]
	reversed := []byte(s[len(s)-8:])
	slices.Reverse(reversed)
	for _, other := range []string{closed("")[:8], closed(f.Body)[len(f.Body):], closed(h[:8])[8:], closed(h[1:])[len(h)-1:], closed(s)[len(s):], "\x00\x00\x00\x00\x00\x00\x00\x00", string(reversed)} {
		wrong := h + other
		splits(t, wrong, nil, "", api.ErrSum)
		splits(t, s+wrong+s, []api.Frame{f}, "", api.ErrSum)
		c := New()
		bytes := sealed("", wrong)
		quiet(t, c, bytes[:len(wrong)-1])
		refuses(t, c, bytes[len(wrong)-1], api.ErrSum)
		// A byte that isn't there yet may yet be a wrong one: nothing is said of it.
		splits(t, s+wrong[:len(wrong)-1], []api.Frame{f}, wrong[:len(wrong)-1], api.OK)
	}
}

func TestALastByteWithoutItsSeal(t *testing.T) {
	ahead := []api.Frame{{Kind: 2, Body: "\x03\x00"}, {Kind: 6, Body: strings.Repeat("y", 900)}}
	f := api.Frame{Kind: 6, Body: "a body"}
	s := plainBytes(f)
	for n := range 3 {
		before := all(ahead[:n])
		bytes := sealed(before, s)
		last := bytes[len(s)-1]
		wrong := []pipe.Byte{
			{B: last.B},
			{B: last.B, Seal: last.Seal}, // told, but it isn't sealed
			{B: last.B, Sealed: true},
			{B: last.B, Seal: last.Seal + 1, Sealed: true},
			{B: last.B, Seal: last.Seal ^ 1<<63, Sealed: true},
			{B: last.B, Seal: bytes[len(s)-2].Seal, Sealed: true},
			{B: last.B, Seal: plainSum(s[:len(s)-8]), Sealed: true},
			{B: last.B, Seal: plainSum(before + s + "x"), Sealed: true},
			{B: last.B, Seal: plainSum("x" + before + s), Sealed: true},
			{B: last.B, Seal: plainSum(before + before + s + s), Sealed: true},
		}
		if n > 0 {
			wrong = append(wrong, pipe.Byte{B: last.B, Seal: plainSum(s), Sealed: true})
		}
		for i, b := range wrong {
			c := New()
			takes(t, c, "", ahead[:n]...)
			quiet(t, c, bytes[:len(s)-1])
			if b == last {
				t.Fatal("it is the right one:", i)
			}
			refuses(t, c, b, api.ErrSum)
		}
		// Split asks for no seals.
		splits(t, before+s, append(slices.Clone(ahead[:n]), f), "", api.OK)
	}
}

func TestOtherSealsThanTheLastOnes(t *testing.T) {
	// They aren't looked at: the last one is of all bytes.
	frames := []api.Frame{{Kind: 1, Body: "\x00\x00"}, {Kind: 4, Body: "\x01"}, {Kind: 10}}
	c := New()
	var ahead string
	for i, f := range frames {
		s := plainBytes(f)
		bytes := sealed(ahead, s)
		for j := range bytes[:len(s)-1] {
			switch (i + j) % 3 {
			case 0:
				bytes[j] = pipe.Byte{B: s[j]}
			case 1:
				bytes[j].Seal++
			}
		}
		quiet(t, c, bytes[:len(s)-1])
		whole(t, c, bytes[len(s)-1], f)
		ahead += s
	}
}

func TestBytesOfOthersAhead(t *testing.T) {
	// What was fed counts, whole frames of others too: the seals of what was sent aren't those of what came.
	f := api.Frame{Kind: 6, Body: "record"}
	s := plainBytes(f)
	bytes := sealed("", s)
	put := plainBytes(api.Frame{Kind: 7, Body: "\x01"})

	c := New()
	quiet(t, c, bare(put[:len(put)-1]))
	refuses(t, c, bare(put)[len(put)-1], api.ErrSum)

	// A frame of others of which but the last byte was sent.
	c = New()
	quiet(t, c, bare(s[:len(s)-1]))
	whole(t, c, bytes[len(s)-1], f)

	// A byte that is put in between, at each place; one that is taken away, or comes twice.
	behind := sealed(s, strings.Repeat(s, 20))
	for i := range len(s) {
		ways := [][]pipe.Byte{
			slices.Insert(slices.Clone(bytes), i, pipe.Byte{B: 1}),
			slices.Insert(slices.Clone(bytes), i, pipe.Byte{}),
			slices.Insert(slices.Clone(bytes), i, pipe.Byte{B: s[i]}),
			slices.Delete(slices.Clone(bytes), i, i+1),
		}
		if i < len(s)-1 {
			ways = append(ways, slices.Insert(slices.Clone(bytes), i, bytes[i]))
		}
		for _, l := range ways {
			c, want := New(), &plain{}
			feeds(t, c, want, append(l, behind...))
			if want.frames != 0 || want.err == api.OK {
				t.Fatal("a frame all the same, or no error, at", i)
			}
		}
	}
}

func TestBytesOfAnotherGeneration(t *testing.T) {
	// Their seals are of what was sent then: a frame that was cut through doesn't go on, a whole one isn't taken.
	f, g := api.Frame{Kind: 6, Body: "one"}, api.Frame{Kind: 6, Body: "two"}
	p := pipe.New(100)
	for n := range len(plainBytes(f)) {
		p.Clear()
		p.Send(plainBytes(f) + plainBytes(g))
		p.Deliver(100)
		for range n {
			p.Take()
		}
		c := New()
		want := &plain{}
		var late []pipe.Byte
		for b, ok := p.Take(); ok; b, ok = p.Take() {
			late = append(late, b)
		}
		feeds(t, c, want, late)
		if n > 0 && want.frames != 0 {
			t.Fatal("a frame of another generation, at", n)
		}
	}
	c := New()
	takes(t, c, "", f)
	bytes := sealed("", plainBytes(g))
	quiet(t, c, bytes[:len(bytes)-1])
	refuses(t, c, bytes[len(bytes)-1], api.ErrSum)
}

func TestNoCutter(t *testing.T) {
	var none *Cutter
	for range 3 {
		for _, b := range append(sealed("", plainBytes(api.Frame{Kind: 1})), pipe.Byte{}, pipe.Byte{B: 11}) {
			if f, ok, err := none.Feed(b); f != (api.Frame{}) || ok || err != api.ErrArg {
				t.Fatal(f, ok, err)
			}
		}
		knows(t, none, 0, api.ErrArg)
	}
}

func TestTheZeroCutter(t *testing.T) {
	// The chapter says nothing of it; it isn't at the beginning of a generation's bytes, so that no seal is right.
	s := plainBytes(api.Frame{Kind: 1, Body: "ab"})
	var c Cutter
	knows(t, &c, 0, api.OK)
	bytes := sealed("", s)
	quiet(t, &c, bytes[:len(s)-1])
	refuses(t, &c, bytes[len(s)-1], api.ErrSum)
	c = Cutter{}
	refuses(t, &c, pipe.Byte{}, api.ErrKind)
}

func TestCuttersGoOnByThemselves(t *testing.T) {
	f, g := api.Frame{Kind: 6, Body: "the first one"}, api.Frame{Kind: 6, Body: "the other one"}
	s, u := plainBytes(f), plainBytes(g)
	for at := range len(s) {
		c, d := New(), New()
		takes(t, c, "", g)
		bytes := sealed(u, s)
		quiet(t, c, bytes[:at])
		e := *c
		// The one that stays behind takes another end, in places that both have.
		quiet(t, c, bare(strings.Repeat("\x01", max(0, min(2, len(s)-1-at)))))
		takes(t, d, "", f, g)
		quiet(t, &e, bytes[at:len(s)-1])
		whole(t, &e, bytes[len(s)-1], f)
		takes(t, &e, u+s, g)
	}
}

func TestSplitOfEachBeginning(t *testing.T) {
	frames := []api.Frame{{Kind: 6, Body: "a record"}, {Kind: 10}, {Kind: 9, Body: strings.Repeat("z", 300)}, {Kind: 1, Body: "\x00\x00"}}
	s := all(frames)
	whole, from := 0, 0
	for i := range len(s) + 1 {
		if n := len(plainBytes(frames[min(whole, 3)])); i == from+n {
			from += n
			whole++
		}
		splits(t, s[:i], frames[:whole], s[from:i], api.OK)
	}
	if whole != 4 {
		t.Fatal(whole)
	}
}

func TestSplitOfNothing(t *testing.T) {
	splits(t, "", nil, "", api.OK)
}

func TestSplitAtTheFirstWrongOne(t *testing.T) {
	// What is behind it isn't looked at, right or wrong.
	right := []api.Frame{{Kind: 2, Body: "\x01\x02"}, {Kind: 10}, {Kind: 6, Body: "abc"}}
	wrong := map[string]api.Errno{
		"\x00":         api.ErrKind,
		"\x0B":         api.ErrKind,
		"\xFF\xFF\xFF": api.ErrKind,
		"\x01\x85\x03": api.ErrLong,
		"\x0A\xFF\xFF": api.ErrLong,
		"\x01\x00\x00\x00\x00\x00\x00\x00\x00\x00\x00": api.ErrSum,
		closed("\x06\x02\x00ab") + "\x00":              api.ErrKind,
	}
	for n := range 4 {
		for s, err := range wrong {
			want := slices.Clone(right[:n])
			if len(s) == 14 {
				want = append(want, api.Frame{Kind: 6, Body: "ab"})
			}
			splits(t, all(right[:n])+s, want, "", err)
			for other := range wrong {
				splits(t, all(right[:n])+s+other+all(right), want, "", err)
			}
		}
	}
}

func TestSplitOfMany(t *testing.T) {
	frames := make([]api.Frame, 20000)
	var s strings.Builder
	for i := range frames {
		frames[i] = api.Frame{Kind: 1 + i%10, Body: strings.Repeat("q", i%30)}
		s.WriteString(plainBytes(frames[i]))
	}
	splits(t, s.String()+"\x01", frames, "\x01", api.OK)
}

func TestNothingIsSharedOrKept(t *testing.T) {
	body := []byte("some bytes")
	f := api.Frame{Kind: 6, Body: unsafe.String(&body[0], len(body))}
	s, _ := Encode(f)
	if string(body) != "some bytes" {
		t.Fatalf("%q", body)
	}
	raw := []byte(s + s + "\x01\x02")
	frames, left, _ := Split(unsafe.String(&raw[0], len(raw)))
	if string(raw) != s+s+"\x01\x02" {
		t.Fatalf("%q", raw)
	}
	clear(body)
	clear(raw)
	want := api.Frame{Kind: 6, Body: "some bytes"}
	if s != plainBytes(want) || !slices.Equal(frames, []api.Frame{want, want}) || left != "\x01\x02" {
		t.Fatalf("%q, %v, %q", s, frames, left)
	}
	// A frame stays when others are cut out behind it.
	c := New()
	bytes := sealed("", s)
	quiet(t, c, bytes[:len(s)-1])
	got, _, _ := c.Feed(bytes[len(s)-1])
	takes(t, c, s, api.Frame{Kind: 7, Body: strings.Repeat("x", 900)})
	if got != want {
		t.Fatalf("%v", got)
	}
}

func TestCallsOfSplitAreAlone(t *testing.T) {
	s := all([]api.Frame{{Kind: 1, Body: "a"}, {Kind: 2}})
	one, _, _ := Split(s)
	two, _, _ := Split(s)
	one[0] = api.Frame{}
	if two[0] != (api.Frame{Kind: 1, Body: "a"}) {
		t.Fatal(two)
	}
}

// feeds feeds bytes to a cutter and a plain one, and fails if they answer otherwise.
func feeds(t *testing.T, c *Cutter, want *plain, bytes []pipe.Byte) {
	t.Helper()
	for i, b := range bytes {
		f, ok, err := c.Feed(b)
		g, wantOk, wantErr := want.feed(b)
		if f != g || ok != wantOk || err != wantErr {
			t.Fatalf("byte %d of %d, %v: %.40v, %v, %d; not %.40v, %v, %d", i, len(bytes), b, f, ok, err, g, wantOk, wantErr)
		}
		knows(t, c, len(want.fed), want.err)
	}
}

// anyBytes splits any bytes, and feeds them with right seals: both are as a plain way has them.
func anyBytes(t *testing.T, s string) {
	t.Helper()
	if len(s) > 3000 {
		s = s[:3000]
	}
	frames, left, err := plainSplit(s)
	splits(t, s, frames, left, err)
	c := New()
	var got []api.Frame
	for _, b := range sealed("", s) {
		if f, ok, _ := c.Feed(b); ok {
			got = append(got, f)
		} else if f != (api.Frame{}) {
			t.Fatalf("no frame, but %.40v", f)
		}
	}
	if c.Err() != err || !slices.Equal(got, frames) {
		t.Fatalf("%.40q: fed %d frames, error %d; split %d, %d", s, len(got), c.Err(), len(frames), err)
	}
	if err == api.OK && c.Count() != len(s) {
		t.Fatalf("%.40q: %d bytes of %d", s, c.Count(), len(s))
	}
	for _, f := range frames {
		if again, err := Encode(f); again != plainBytes(f) || err != api.OK {
			t.Fatalf("%.40v: %.40q, %d", f, again, err)
		}
	}
}

// mixed gives right frames, and among them some bytes that are turned, put in or left out.
func (d *dice) mixed() string {
	var b []byte
	for range d.next() % 8 {
		s := []byte(plainBytes(api.Frame{Kind: 1 + d.next()%10, Body: d.text(d.next() % 20)}))
		switch d.next() % 12 {
		case 0:
			s[d.next()%len(s)] ^= 1 << (d.next() % 8)
		case 1:
			s = slices.Insert(s, d.next()%len(s), byte(d.next()%12))
		case 2:
			at := d.next() % len(s)
			s = slices.Delete(s, at, at+1)
		case 3:
			s = s[:d.next()%len(s)]
		}
		b = append(b, s...)
	}
	return string(b)
}

func TestAnyBytes(t *testing.T) {
	d := dice(24242)
	for range 20000 {
		anyBytes(t, d.mixed())
	}
	for range 20000 {
		anyBytes(t, d.text(d.next()%40))
	}
}

func TestEachShortText(t *testing.T) {
	values := []byte{0, 1, 2, 3, 4, 10, 11, 0x83, 0x84, 0x85, 255}
	for i := range len(values) * len(values) * len(values) {
		s := []byte{values[i%11], values[i/11%11], values[i/121]}
		for n := range 4 {
			anyBytes(t, string(s[:n]))
		}
		anyBytes(t, string(s)+"\x00\x00\x00\x00\x00\x00\x00\x00")
		anyBytes(t, closed(string(s))+"\x01")
	}
}

// travel sends frames through a pipe, as acts say, while others put bytes in, and turns them into frames again.
// Two bytes are an act: what it is, and of how many bytes. What is taken must be the first ones that were sent.
func travel(t *testing.T, acts []byte) (sent, got []api.Frame, put int, err api.Errno) {
	t.Helper()
	p, c, want := pipe.New(2048), New(), &plain{}
	for i := 0; i+1 < len(acts) && i < 1000; i += 2 {
		act, n := acts[i]%16, int(acts[i+1])
		switch {
		case act < 6:
			f := api.Frame{Kind: 1 + n%10, Body: strings.Repeat(string(acts[i:i+2]), n/8)}
			if s, _ := Encode(f); p.Send(s) {
				sent = append(sent, f)
			}
		case act < 9:
			p.Deliver(n)
		case act == 9 && n < 8:
			// Others know what was sent: a right frame, whole or in part, or the bytes that are to come.
			s := all(sent) + plainBytes(api.Frame{Kind: api.End})
			s = s[max(0, min(c.Count(), len(s))):]
			if s = s[:min(n*n, len(s))]; p.Inject(s) {
				put += len(s)
			}
		case act == 10 && n < 8:
			if s := plainBytes(api.Frame{Kind: 1 + n, Body: "x"}); p.Inject(s) {
				put += len(s)
			}
		default:
			for range n {
				b, _ := p.Take()
				if b == (pipe.Byte{}) {
					break
				}
				f, ok, e := c.Feed(b)
				g, wantOk, wantErr := want.feed(b)
				if f != g || ok != wantOk || e != wantErr {
					t.Fatalf("act %d: %.40v, %v, %d; not %.40v, %v, %d", i/2, f, ok, e, g, wantOk, wantErr)
				}
				if ok {
					got = append(got, f)
				}
			}
		}
	}
	knows(t, c, len(want.fed), want.err)
	return sent, got, put, c.Err()
}

// wayfare fails if something else is taken than the first frames that were sent, or something is refused that nobody put in.
func wayfare(t *testing.T, acts []byte) {
	t.Helper()
	sent, got, put, err := travel(t, acts)
	if len(got) > len(sent) || !slices.Equal(got, sent[:len(got)]) {
		t.Fatalf("taken %.200v; sent %.200v", got, sent)
	}
	if put == 0 && err != api.OK {
		t.Fatal("nobody put bytes in, but there is the error", err)
	}
}

func TestWhatIsTakenWasSent(t *testing.T) {
	d := dice(242)
	taken, refused := 0, 0
	for range 1500 {
		acts := []byte(d.text(2 + d.next()%400))
		wayfare(t, acts)
		_, got, _, err := travel(t, acts)
		taken += len(got)
		if err != api.OK {
			refused++
		}
	}
	if taken < 1000 || refused < 100 {
		t.Fatal("too little is asked:", taken, refused)
	}
}

func TestAllThatIsSentIsTaken(t *testing.T) {
	// In whatever pieces it comes, when nobody puts anything in.
	d := dice(2424)
	for _, most := range []int{911, 1000, 2047, 2048} {
		p, c := pipe.New(most), New()
		var sent, got []api.Frame
		for range 4000 {
			if f := d.frame(); d.next()%4 == 0 {
				if s, _ := Encode(f); p.Send(s) {
					sent = append(sent, f)
				}
			}
			p.Deliver(d.next() % 200)
			for range d.next() % 300 {
				b, ok := p.Take()
				if !ok {
					break
				}
				if f, ok, _ := c.Feed(b); ok {
					got = append(got, f)
				}
			}
		}
		p.Deliver(most)
		for b, ok := p.Take(); ok; b, ok = p.Take() {
			if f, ok, _ := c.Feed(b); ok {
				got = append(got, f)
			}
		}
		knows(t, c, len(all(sent)), api.OK)
		if !slices.Equal(got, sent) || len(sent) < 300 {
			t.Fatalf("of %d: %d sent, %d taken", most, len(sent), len(got))
		}
	}
}

func TestOneAnswer(t *testing.T) {
	d := dice(24024)
	for range 200 {
		s := d.mixed()
		a, b := fmt.Sprint(Split(s)), fmt.Sprint(Split(s))
		if a != b {
			t.Fatalf("%q: %s, then %s", s, a, b)
		}
	}
}

func FuzzBytes(f *testing.F) {
	f.Add("")
	f.Add(closed("\x01\x00\x00"))
	f.Add(closed("\x06\x02\x00ab") + closed("\x0A\x00\x00") + "\x02\x84\x03")
	f.Add(closed("\x06\x02\x00ab") + "\x01\x85\x03")
	f.Fuzz(anyBytes)
}

func FuzzTravel(f *testing.F) {
	f.Add([]byte{0, 40, 0, 3, 6, 50, 15, 60})
	f.Add([]byte{0, 40, 6, 10, 9, 3, 6, 90, 15, 200})
	f.Add([]byte{0, 9, 10, 2, 6, 90, 15, 200})
	f.Fuzz(wayfare)
}
