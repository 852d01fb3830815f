package message

import (
	"encoding/binary"
	"math"
	"strings"
	"testing"
	"unsafe"

	"pemmican/api"
	"pemmican/block"
	"pemmican/dict"
	"pemmican/frame"
)

// A dice gives the same numbers in every run.
type dice uint64

func (d *dice) next() int {
	*d = *d*6364136223846793005 + 1442695040888963407
	return int(*d >> 33)
}

// text gives n bytes.
func (d *dice) text(n int) string {
	b := make([]byte, n)
	for i := range b {
		b[i] = byte(d.next())
	}
	return string(b)
}

// number gives one from least to most, now and then one of the two, or one with few groups.
func (d *dice) number(least, most int) int {
	switch d.next() % 5 {
	case 0:
		return least
	case 1:
		return most
	case 2:
		return least + d.next()%min(most-least+1, 300)
	}
	return least + d.next()%(most-least+1)
}

// message gives one that may be.
func (d *dice) message() api.Message {
	m := api.Message{Kind: 1 + d.next()%10}
	switch m.Kind {
	case api.Hello, api.Welcome:
		m.Next, m.Epoch = d.number(0, 400), d.number(0, 1<<30)
	case api.Announce:
		m.Epoch, m.Data = d.number(1, 1<<30), d.text(d.number(0, 300))
	case api.Ack, api.Switch:
		m.Epoch = d.number(1, 1<<30)
	case api.Record:
		m.Next, m.Data = d.number(0, 400), d.text(d.number(0, 600))
	case api.Applied:
		m.Next = d.number(0, 400)
	case api.Begin:
		m.Next, m.Size, m.Sum = d.number(0, 400), d.number(0, 1<<20), uint64(d.next())<<33^uint64(d.next())
	case api.Chunk:
		m.Size, m.Data = d.number(0, 1<<20), d.text(d.number(1, 200))
	}
	return m
}

// plainSum is the sum of layer 4, written anew from its chapter.
func plainSum(s string) uint64 {
	h, n := uint64(0x6A09E667F3BCC908), uint64(0)
	for _, c := range []byte(s) {
		h = (h ^ uint64(c)) * 0x9E3779B97F4A7C15
		h ^= h >> 29
		n++
	}
	v := (h + n) * 0xBF58476D1CE4E5B9
	return v ^ v>>32
}

// plainFrame answers the bytes of a frame, written anew from its chapter.
func plainFrame(f api.Frame) string {
	s := string([]byte{byte(f.Kind), byte(len(f.Body)), byte(len(f.Body) >> 8)}) + f.Body
	return string(binary.LittleEndian.AppendUint64([]byte(s), plainSum(s)))
}

// group answers a number in groups.
func group(n int) string {
	return string(binary.AppendUvarint(nil, uint64(n)))
}

// long answers a number in groups with noughts behind it, which it doesn't take.
func long(n int) string {
	b := []byte(group(n))
	b[len(b)-1] |= 0x80
	return string(append(b, 0))
}

// eight answers a number in eight bytes.
func eight(n uint64) string {
	return string(binary.LittleEndian.AppendUint64(nil, n))
}

// plainBody answers what stands in the body, kind by kind as the chapter's table has it, and whether m may be.
func plainBody(m api.Message) (string, bool) {
	next := m.Next >= 0 && m.Next <= 400
	epoch := m.Epoch >= 1 && m.Epoch <= 1073741824
	size := m.Size >= 0 && m.Size <= 1048576
	n := len(m.Data)
	left := m
	left.Kind = 0
	switch m.Kind {
	case 1, 2:
		left.Next, left.Epoch = 0, 0
		return group(m.Next) + group(m.Epoch), left == api.Message{} && next && (epoch || m.Epoch == 0)
	case 3:
		left.Epoch, left.Data = 0, ""
		return group(m.Epoch) + group(n) + m.Data, left == api.Message{} && epoch && n <= 300
	case 4, 5:
		left.Epoch = 0
		return group(m.Epoch), left == api.Message{} && epoch
	case 6:
		left.Next, left.Data = 0, ""
		return group(m.Next) + group(n) + m.Data, left == api.Message{} && next && n <= 600
	case 7:
		left.Next = 0
		return group(m.Next), left == api.Message{} && next
	case 8:
		left.Next, left.Size, left.Sum = 0, 0, 0
		return group(m.Next) + group(m.Size) + eight(m.Sum), left == api.Message{} && next && size
	case 9:
		left.Size, left.Data = 0, ""
		return group(m.Size) + group(n) + m.Data, left == api.Message{} && size && n >= 1 && n <= 200
	case 10:
		return "", left == api.Message{}
	}
	return "", false
}

// may fails if m isn't said to be right, isn't that frame, isn't read from it again, or has other bytes.
func may(t *testing.T, m api.Message, body string) {
	t.Helper()
	if !Right(m) {
		t.Fatalf("%.60v may not be", m)
	}
	want := api.Frame{Kind: m.Kind, Body: body}
	if f, err := Encode(m); f != want || err != api.OK {
		t.Fatalf("Encode(%.60v): %.60q, %d; not %.60q", m, f.Body, err, body)
	}
	if got, err := Decode(want); got != m || err != api.OK {
		t.Fatalf("Decode of kind %d, %.60q: %.60v, %d; not %.60v", m.Kind, body, got, err, m)
	}
	if s, err := Bytes(m); s != plainFrame(want) || err != api.OK {
		t.Fatalf("Bytes(%.60v): %.60q, %d", m, s, err)
	}
}

// mayNot fails if m is said to be right, or is made anything.
func mayNot(t *testing.T, m api.Message) {
	t.Helper()
	if Right(m) {
		t.Fatalf("%.60v may be", m)
	}
	if f, err := Encode(m); f != (api.Frame{}) || err != api.ErrForm {
		t.Fatalf("Encode(%.60v): %.60v, %d", m, f, err)
	}
	if s, err := Bytes(m); s != "" || err != api.ErrForm {
		t.Fatalf("Bytes(%.60v): %.60q, %d", m, s, err)
	}
}

// refused fails if a message is read from that frame.
func refused(t *testing.T, kind int, body string) {
	t.Helper()
	if m, err := Decode(api.Frame{Kind: kind, Body: body}); m != (api.Message{}) || err != api.ErrForm {
		t.Fatalf("Decode of kind %d, %.60q: %.60v, %d", kind, body, m, err)
	}
}

// held fails if m, be it one that may be or not, is taken otherwise than the chapter's table has it.
func held(t *testing.T, m api.Message) {
	t.Helper()
	if body, ok := plainBody(m); ok {
		may(t, m, body)
		return
	}
	mayNot(t, m)
}

// far are numbers that may not be, of what is 0 up to most.
func far(most int) []int {
	return []int{most + 1, most + 2, 2 * most, -1, -2, -127, -128, -most, math.MinInt32, math.MaxInt32, -1 << 32, 1 << 32, 1<<32 + 1, 1<<62 + 1, math.MinInt, math.MinInt + 1, math.MaxInt - 1, math.MaxInt}
}

func TestExample(t *testing.T) {
	f, err := Encode(api.Message{Kind: api.Ack, Epoch: 3})
	if f != (api.Frame{Kind: 4, Body: "\x03"}) || err != api.OK {
		t.Fatal(f, err)
	}
}

func TestLimits(t *testing.T) {
	if api.MaxLog != 400 || api.MaxBlock != 600 || api.MaxChunk != 200 || api.Hello != 1 || api.End != 10 {
		t.Fatal(api.MaxLog, api.MaxBlock, api.MaxChunk, api.Hello, api.End)
	}
}

func TestBytesWorkedOut(t *testing.T) {
	for s, m := range map[string]api.Message{
		"\x01\x02\x00\x00\x00\x27\xC9\x56\x69\x1C\xD0\xA3\xA8":                                     {Kind: api.Hello},
		"\x02\x07\x00\x90\x03\x80\x80\x80\x80\x04\x8F\x23\xAA\xD7\x17\x2B\x1F\x2F":                 {Kind: api.Welcome, Next: 400, Epoch: 1 << 30},
		"\x03\x04\x00\x01\x02PD\x4E\xF8\x3F\xF4\xA3\x8B\xC4\x11":                                   {Kind: api.Announce, Epoch: 1, Data: "PD"},
		"\x04\x01\x00\x03\x6E\x60\x2D\xF6\xFC\x3F\x18\x6F":                                         {Kind: api.Ack, Epoch: 3},
		"\x05\x02\x00\x80\x01\x18\x7F\xB1\x55\xF7\x23\xA7\x68":                                     {Kind: api.Switch, Epoch: 128},
		"\x06\x04\x00\x05\x02ab\x2F\xD3\xC2\x3B\x64\x3D\xAC\x4B":                                   {Kind: api.Record, Next: 5, Data: "ab"},
		"\x07\x01\x00\x7F\xA9\x30\xF9\x12\xB7\x77\x32\x1F":                                         {Kind: api.Applied, Next: 127},
		"\x08\x0B\x00\x04\xAC\x02\xEF\xCD\xAB\x89\x67\x45\x23\x01\x81\x07\x7C\xFD\x0D\x01\xD7\x52": {Kind: api.Begin, Next: 4, Size: 300, Sum: 0x0123456789ABCDEF},
		"\x09\x05\x00\x80\x80\x40\x01x\x1C\x57\x10\xA5\x84\x9A\x0C\x47":                            {Kind: api.Chunk, Size: 1 << 20, Data: "x"},
		"\x0A\x00\x00\xEB\xF5\xB5\x43\x74\x51\xF3\x61":                                             {Kind: api.End},
	} {
		may(t, m, s[3:len(s)-8])
		if got, err := Bytes(m); got != s || err != api.OK {
			t.Errorf("Bytes(%v): %q, %d; not %q", m, got, err, s)
		}
		frames, left, err := frame.Split(s)
		if len(frames) != 1 || left != "" || err != api.OK {
			t.Fatalf("%q: %v, %q, %d", s, frames, left, err)
		}
		if got, err := Decode(frames[0]); got != m || err != api.OK {
			t.Errorf("%q: %v, %d; not %v", s, got, err, m)
		}
	}
}

func TestEachPlace(t *testing.T) {
	for next := range 401 {
		may(t, api.Message{Kind: api.Hello, Next: next, Epoch: 1}, group(next)+"\x01")
		may(t, api.Message{Kind: api.Welcome, Next: next}, group(next)+"\x00")
		may(t, api.Message{Kind: api.Record, Next: next, Data: "b"}, group(next)+"\x01b")
		may(t, api.Message{Kind: api.Applied, Next: next}, group(next))
		may(t, api.Message{Kind: api.Begin, Next: next, Size: 1, Sum: 2}, group(next)+"\x01\x02\x00\x00\x00\x00\x00\x00\x00")
	}
	for _, next := range far(400) {
		for _, kind := range []int{api.Hello, api.Welcome, api.Record, api.Applied, api.Begin} {
			mayNot(t, api.Message{Kind: kind, Next: next})
		}
		refused(t, api.Hello, group(next)+"\x00")
		refused(t, api.Welcome, group(next)+"\x00")
		refused(t, api.Record, group(next)+"\x00")
		refused(t, api.Applied, group(next))
		refused(t, api.Begin, group(next)+"\x00"+eight(0))
	}
}

func TestEpochs(t *testing.T) {
	epochs := []int{1, 2, 8, 127, 128, 255, 256, 16383, 16384, 1<<21 - 1, 1 << 21, 1<<28 - 1, 1 << 28, 1<<30 - 1, 1 << 30}
	for _, epoch := range epochs {
		may(t, api.Message{Kind: api.Hello, Next: 3, Epoch: epoch}, "\x03"+group(epoch))
		may(t, api.Message{Kind: api.Welcome, Next: 3, Epoch: epoch}, "\x03"+group(epoch))
		may(t, api.Message{Kind: api.Announce, Epoch: epoch, Data: "d"}, group(epoch)+"\x01d")
		may(t, api.Message{Kind: api.Ack, Epoch: epoch}, group(epoch))
		may(t, api.Message{Kind: api.Switch, Epoch: epoch}, group(epoch))
	}
	for _, epoch := range far(1 << 30) {
		for _, kind := range []int{api.Hello, api.Welcome, api.Announce, api.Ack, api.Switch} {
			mayNot(t, api.Message{Kind: kind, Epoch: epoch})
		}
		refused(t, api.Hello, "\x00"+group(epoch))
		refused(t, api.Welcome, "\x00"+group(epoch))
		refused(t, api.Announce, group(epoch)+"\x00")
		refused(t, api.Ack, group(epoch))
		refused(t, api.Switch, group(epoch))
	}
}

func TestNoEpoch(t *testing.T) {
	// Hello and Welcome may tell it; a dictionary that is told of has another one.
	may(t, api.Message{Kind: api.Hello}, "\x00\x00")
	may(t, api.Message{Kind: api.Welcome, Next: 400}, "\x90\x03\x00")
	mayNot(t, api.Message{Kind: api.Announce})
	mayNot(t, api.Message{Kind: api.Announce, Data: "d"})
	mayNot(t, api.Message{Kind: api.Ack})
	mayNot(t, api.Message{Kind: api.Switch})
	refused(t, api.Announce, "\x00\x00")
	refused(t, api.Announce, "\x00\x01d")
	refused(t, api.Ack, "\x00")
	refused(t, api.Switch, "\x00")
}

func TestSizes(t *testing.T) {
	for _, size := range []int{0, 1, 127, 128, 200, 16383, 16384, 1<<20 - 1, 1 << 20} {
		may(t, api.Message{Kind: api.Begin, Next: 1, Size: size, Sum: 3}, "\x01"+group(size)+eight(3))
		may(t, api.Message{Kind: api.Chunk, Size: size, Data: "c"}, group(size)+"\x01c")
	}
	for _, size := range far(1 << 20) {
		mayNot(t, api.Message{Kind: api.Begin, Size: size})
		mayNot(t, api.Message{Kind: api.Chunk, Size: size, Data: "c"})
		refused(t, api.Begin, "\x00"+group(size)+eight(0))
		refused(t, api.Chunk, group(size)+"\x01c")
	}
}

func TestSums(t *testing.T) {
	for _, sum := range []uint64{0, 1, 255, 256, 1<<32 - 1, 1 << 32, 1 << 63, math.MaxInt64, math.MaxUint64, 0x0123456789ABCDEF} {
		may(t, api.Message{Kind: api.Begin, Sum: sum}, "\x00\x00"+eight(sum))
		may(t, api.Message{Kind: api.Begin, Next: 400, Size: 1 << 20, Sum: sum}, "\x90\x03\x80\x80\x40"+eight(sum))
	}
}

func TestEachLengthOfData(t *testing.T) {
	d := dice(25)
	for n := range 700 {
		data := d.text(n)
		held(t, api.Message{Kind: api.Announce, Epoch: 7, Data: data})
		held(t, api.Message{Kind: api.Record, Next: 7, Data: data})
		held(t, api.Message{Kind: api.Chunk, Size: 7, Data: data})
		body := "\x07" + group(n) + data
		if n > 300 {
			refused(t, api.Announce, body)
		}
		if n > 600 {
			refused(t, api.Record, body)
		}
		if n < 1 || n > 200 {
			refused(t, api.Chunk, body)
		}
	}
	for _, n := range []int{1 << 10, 1 << 16, 1<<16 + 1, 1 << 20} {
		data := strings.Repeat("x", n)
		for kind := range 12 {
			mayNot(t, api.Message{Kind: kind, Next: 1, Epoch: 1, Data: data})
			mayNot(t, api.Message{Kind: kind, Epoch: 1, Data: data})
			mayNot(t, api.Message{Kind: kind, Data: data})
			refused(t, kind, data)
			refused(t, kind, "\x01"+group(n)+data)
		}
	}
}

func TestDataOfAnyBytes(t *testing.T) {
	// What the bytes of a dictionary, or of a block, mean is asked elsewhere.
	for c := range 256 {
		data := string([]byte{byte(c)})
		may(t, api.Message{Kind: api.Announce, Epoch: 1, Data: data}, "\x01\x01"+data)
		may(t, api.Message{Kind: api.Record, Data: data}, "\x00\x01"+data)
		may(t, api.Message{Kind: api.Chunk, Data: data}, "\x00\x01"+data)
	}
	may(t, api.Message{Kind: api.Announce, Epoch: 1}, "\x01\x00")
	may(t, api.Message{Kind: api.Record}, "\x00\x00")
}

func TestDictionariesAndBlocksGo(t *testing.T) {
	d := dice(2525)
	for _, n := range []int{0, 1, 255, 256} {
		s, err := dict.Encode(d.text(n))
		if err != api.OK || !Right(api.Message{Kind: api.Announce, Epoch: 1, Data: s}) {
			t.Errorf("a dictionary of %d bytes: %d", n, err)
		}
	}
	for _, n := range []int{0, 1, 100, 511, 512} {
		b, err := block.Encode(d.text(n), "", 1<<30, 3)
		if err != api.OK || !Right(api.Message{Kind: api.Record, Data: b}) {
			t.Errorf("a block of %d bytes: %d", n, err)
		}
	}
}

func TestKindsThatAreNone(t *testing.T) {
	for _, kind := range append(far(10), 0, 11, 12, 127, 128, 255, 256, 257, 266, 65537) {
		for _, m := range []api.Message{{}, {Next: 1}, {Epoch: 1}, {Size: 1}, {Sum: 1}, {Data: "x"}, {Next: 1, Epoch: 1}, {Epoch: 1, Data: "x"}} {
			m.Kind = kind
			mayNot(t, m)
		}
		for _, body := range []string{"", "\x00", "\x01", "\x01\x01", "\x01\x01x", "\x00\x00" + eight(0)} {
			refused(t, kind, body)
		}
	}
	mayNot(t, api.Message{})
}

func TestWhatAKindDoesNotTell(t *testing.T) {
	// Each kind with each choice of fields that aren't nought: it has its own, and nothing else.
	own := map[int]api.Message{
		api.Hello: {Next: 1, Epoch: 1}, api.Welcome: {Next: 1, Epoch: 1}, api.Announce: {Epoch: 1, Data: "x"}, api.Ack: {Epoch: 1}, api.Switch: {Epoch: 1},
		api.Record: {Next: 1, Data: "x"}, api.Applied: {Next: 1}, api.Begin: {Next: 1, Size: 1, Sum: 1}, api.Chunk: {Size: 1, Data: "x"}, api.End: {},
	}
	for kind, has := range own {
		for choice := range 32 {
			m := api.Message{Kind: kind}
			foreign := false
			if choice&1 != 0 {
				m.Next = 1
				foreign = foreign || has.Next == 0
			}
			if choice&2 != 0 {
				m.Epoch = 1
				foreign = foreign || has.Epoch == 0
			}
			if choice&4 != 0 {
				m.Size = 1
				foreign = foreign || has.Size == 0
			}
			if choice&8 != 0 {
				m.Sum = 1
				foreign = foreign || has.Sum == 0
			}
			if choice&16 != 0 {
				m.Data = "x"
				foreign = foreign || has.Data == ""
			}
			if foreign {
				mayNot(t, m)
			}
			held(t, m)
		}
		has.Kind = kind
		for _, n := range far(0) {
			for _, m := range []api.Message{{Next: n}, {Epoch: n}, {Size: n}} {
				whole := has
				whole.Next += m.Next
				whole.Epoch += m.Epoch
				whole.Size += m.Size
				held(t, whole)
			}
		}
	}
}

func TestBodiesThatAreNotWhole(t *testing.T) {
	d := dice(250)
	for range 2000 {
		m := d.message()
		f, err := Encode(m)
		if err != api.OK {
			t.Fatal(m, err)
		}
		for n := range f.Body {
			refused(t, m.Kind, f.Body[:n])
		}
		for _, behind := range []string{"\x00", "\x01", "\x80", "\xFF", f.Body + "\x00", d.text(1 + d.next()%20)} {
			refused(t, m.Kind, f.Body+behind)
		}
		if m.Kind != api.End {
			refused(t, m.Kind, "")
		}
	}
}

func TestNumbersThatAreLonger(t *testing.T) {
	// More bytes than a number takes are no number: else two frames would mean the same.
	for _, n := range []int{0, 1, 3, 127, 128, 400} {
		refused(t, api.Hello, long(n)+"\x01")
		refused(t, api.Hello, "\x01"+long(n))
		refused(t, api.Welcome, long(n)+"\x01")
		refused(t, api.Welcome, "\x01"+long(n))
		refused(t, api.Announce, long(n)+"\x01x")
		refused(t, api.Ack, long(n))
		refused(t, api.Switch, long(n))
		refused(t, api.Record, long(n)+"\x01x")
		refused(t, api.Applied, long(n))
		refused(t, api.Begin, long(n)+"\x01"+eight(1))
		refused(t, api.Begin, "\x01"+long(n)+eight(1))
		refused(t, api.Chunk, long(n)+"\x01x")
		for _, kind := range []int{api.Announce, api.Record, api.Chunk} {
			data := strings.Repeat("x", n)
			refused(t, kind, "\x01"+long(n)+data)
		}
	}
}

func TestNumbersThatGoRound(t *testing.T) {
	// Greater than 2^64 - 1, or than a number that may be less than 0.
	for _, n := range []uint64{1 << 63, 1<<63 + 1, math.MaxUint64, math.MaxUint64 - 127, 1 << 32, 1<<32 + 1} {
		g := string(binary.AppendUvarint(nil, n))
		for _, s := range []string{g, "\xFF\xFF\xFF\xFF\xFF\xFF\xFF\xFF\xFF\x02", "\xFF\xFF\xFF\xFF\xFF\xFF\xFF\xFF\xFF\xFF\x01"} {
			refused(t, api.Hello, s+"\x01")
			refused(t, api.Hello, "\x01"+s)
			refused(t, api.Announce, s+"\x01x")
			refused(t, api.Announce, "\x01"+s+"x")
			refused(t, api.Ack, s)
			refused(t, api.Record, s+"\x01x")
			refused(t, api.Record, "\x01"+s+"x")
			refused(t, api.Applied, s)
			refused(t, api.Begin, "\x01"+s+eight(1))
			refused(t, api.Chunk, s+"\x01x")
			refused(t, api.Chunk, "\x01"+s+"x")
		}
	}
}

func TestEachShortBody(t *testing.T) {
	// All bodies of up to two bytes, of all kinds and two that are none.
	bodies := []string{""}
	for i := range 256 {
		bodies = append(bodies, string([]byte{byte(i)}))
		for j := range 256 {
			bodies = append(bodies, string([]byte{byte(i), byte(j)}))
		}
	}
	for _, body := range bodies {
		for kind := range 12 {
			decoded(t, api.Frame{Kind: kind, Body: body})
		}
	}
}

// decoded fails if what is read from f isn't the one message that has this frame, or nothing is read though there is one.
func decoded(t *testing.T, f api.Frame) {
	t.Helper()
	m, err := Decode(f)
	want, ok := plainDecode(f)
	if !ok {
		if m != (api.Message{}) || err != api.ErrForm {
			t.Fatalf("Decode of kind %d, %.60q: %.60v, %d", f.Kind, f.Body, m, err)
		}
		return
	}
	if m != want || err != api.OK {
		t.Fatalf("Decode of kind %d, %.60q: %.60v, %d; not %.60v", f.Kind, f.Body, m, err, want)
	}
	may(t, m, f.Body)
}

// plainDecode reads f's numbers without the layers below, and looks whether the message that they make has that body.
func plainDecode(f api.Frame) (api.Message, bool) {
	s := f.Body
	number := func() int {
		v, n := binary.Uvarint([]byte(s))
		if n <= 0 {
			return -1
		}
		s = s[n:]
		return int(v)
	}
	bytes := func(n int) string {
		n = min(max(n, 0), len(s))
		b := s[:n]
		s = s[n:]
		return b
	}
	m := api.Message{Kind: f.Kind}
	switch f.Kind {
	case 1, 2:
		m.Next = number()
		m.Epoch = number()
	case 3:
		m.Epoch = number()
		m.Data = bytes(number())
	case 4, 5:
		m.Epoch = number()
	case 6:
		m.Next = number()
		m.Data = bytes(number())
	case 7:
		m.Next = number()
	case 8:
		m.Next = number()
		m.Size = number()
		if b := bytes(8); len(b) == 8 {
			m.Sum = binary.LittleEndian.Uint64([]byte(b))
		}
	case 9:
		m.Size = number()
		m.Data = bytes(number())
	}
	body, ok := plainBody(m)
	return m, ok && body == f.Body
}

func TestAnyMessages(t *testing.T) {
	d := dice(2)
	for range 20000 {
		m := d.message()
		body, ok := plainBody(m)
		if !ok {
			t.Fatalf("none that may be: %.60v", m)
		}
		may(t, m, body)
		// A field of it is another one, be it right or not.
		switch d.next() % 6 {
		case 0:
			m.Kind = d.next() % 12
		case 1:
			m.Next += d.next()%3 - 1
		case 2:
			m.Epoch += d.next()%3 - 1
		case 3:
			m.Size += d.next()%3 - 1
		case 4:
			m.Sum++
		case 5:
			m.Data += "x"
		}
		held(t, m)
	}
}

func TestAnyBodies(t *testing.T) {
	d := dice(5)
	for range 30000 {
		m := d.message()
		body, _ := plainBody(m)
		raw := []byte(body)
		for range d.next() % 3 {
			if len(raw) > 0 {
				raw[d.next()%min(len(raw), 12)] ^= 1 << (d.next() % 8)
			}
		}
		decoded(t, api.Frame{Kind: m.Kind, Body: string(raw)})
		decoded(t, api.Frame{Kind: d.next() % 12, Body: string(raw)})
		decoded(t, api.Frame{Kind: d.next() % 12, Body: d.text(d.next() % 20)})
	}
}

func TestNoTwoHaveOneFrame(t *testing.T) {
	d := dice(52)
	seen := map[api.Frame]api.Message{}
	for range 20000 {
		m := d.message()
		f, err := Encode(m)
		if err != api.OK {
			t.Fatal(m, err)
		}
		if other, ok := seen[f]; ok && other != m {
			t.Fatalf("%.60v and %.60v have one frame", m, other)
		}
		seen[f] = m
	}
}

func TestOneAnswer(t *testing.T) {
	d := dice(7)
	for range 500 {
		m := d.message()
		first, _ := Bytes(m)
		f, _ := Encode(m)
		for range 3 {
			again, err := Bytes(m)
			g, err2 := Encode(m)
			if again != first || err != api.OK || g != f || err2 != api.OK {
				t.Fatalf("%.60v: another answer", m)
			}
		}
	}
}

func TestNewMemory(t *testing.T) {
	// What is answered stays though the bytes that were handed in are others then.
	for _, m := range []api.Message{
		{Kind: api.Announce, Epoch: 3, Data: "a dictionary's bytes"},
		{Kind: api.Record, Next: 3, Data: "a block"},
		{Kind: api.Chunk, Size: 3, Data: "a piece"},
	} {
		body, _ := plainBody(m)
		raw := []byte(body)
		got, err := Decode(api.Frame{Kind: m.Kind, Body: unsafe.String(unsafe.SliceData(raw), len(raw))})
		clear(raw)
		if got != m || err != api.OK {
			t.Errorf("Decode of kind %d: %v, %d", m.Kind, got, err)
		}

		raw = []byte(m.Data)
		lent := m
		lent.Data = unsafe.String(unsafe.SliceData(raw), len(raw))
		f, err := Encode(lent)
		s, err2 := Bytes(lent)
		clear(raw)
		if f.Body != body || err != api.OK || s != plainFrame(f) || err2 != api.OK {
			t.Errorf("Encode of kind %d: %q, %q", m.Kind, f.Body, s)
		}
	}
}

func FuzzDecode(f *testing.F) {
	f.Add(1, "\x00\x00")
	f.Add(3, "\x01\x02PD")
	f.Add(4, "\x03")
	f.Add(6, "\x05\x02ab")
	f.Add(8, "\x04\xAC\x02\xEF\xCD\xAB\x89\x67\x45\x23\x01")
	f.Add(9, "\x80\x80\x40\x01x")
	f.Add(10, "")
	f.Fuzz(func(t *testing.T, kind int, body string) {
		decoded(t, api.Frame{Kind: kind, Body: body})
	})
}

func FuzzEncode(f *testing.F) {
	f.Add(1, 400, 1<<30, 0, uint64(0), "")
	f.Add(3, 0, 1, 0, uint64(0), "PD")
	f.Add(8, 4, 0, 1<<20, uint64(1), "")
	f.Add(9, 0, 0, 1<<20+1, uint64(0), "x")
	f.Fuzz(func(t *testing.T, kind, next, epoch, size int, sum uint64, data string) {
		held(t, api.Message{Kind: kind, Next: next, Epoch: epoch, Size: size, Sum: sum, Data: data})
	})
}
