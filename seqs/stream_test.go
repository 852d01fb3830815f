package seqs

import (
	"bytes"
	"encoding/binary"
	"math"
	"slices"
	"strings"
	"testing"

	"pemmican/bits"
	"pemmican/count"
	"pemmican/cursor"
	"pemmican/fse"
	"pemmican/header"
	"pemmican/spread"
)

// most is how many codes a stream has at most, and bytes a text.
const most = 4096

// all are all codes.
const all = "\x00\x01\x02\x03\x04\x05\x06\x07\x08\x09\x0a\x0b\x0c\x0d\x0e\x0f\x10\x11\x12\x13\x14\x15\x16\x17\x18\x19\x1a\x1b"

// short are codes, and the shortest streams of them, worked out beside the program.
var short = []struct {
	codes  string
	stream string
}{
	{"", "\x00"},
	// One alone is as short of kind 0 as of kind 1.
	{"\x00", "\x00\x00"},
	{"\x07", "\x00\x07"},
	{"\x1b", "\x00\x1b"},
	// All are one.
	{"\x07\x07", "\x01\x07"},
	{"\x00\x00\x00", "\x01\x00"},
	{strings.Repeat("\x1b", 1000), "\x01\x1b"},
	{strings.Repeat("\x1b", most), "\x01\x1b"},
	// Too few, for a share to be worth it.
	{"\x00\x01", "\x00\x00\x01"},
	{"\x05\x05\x06", "\x00\x05\x05\x06"},
	{all, "\x00" + all},
	// As short of kind 0 as of kind 2, and a byte less.
	{"\x00\x00\x00\x00\x00\x01", "\x00\x00\x00\x00\x00\x00\x01"},
	{"\x00\x00\x00\x00\x00\x00\x01", "\x02\x02\xe0\x08\x02\x88\x02"},
	{strings.Repeat("\x00", 7) + "\x01", "\x02\x02\xe0\x08\x02\xe8\x02"},
	{strings.Repeat("\x00", 8) + "\x01", "\x02\x02\xe8\x06\x02\x48\x03"},
	{strings.Repeat("\x00", 12) + "\x01", "\x02\x02\xf0\x04\x02\xb0\x05"},
	{"\x01" + strings.Repeat("\x00", 12), "\x02\x02\xf0\x04\x02\x25\x05"},
	{strings.Repeat("\x00\x01", 8), "\x02\x02\x80\x20\x03\xfe\xff\x21"},
	{strings.Repeat("\x00", 60) + "\x1b", "\x02\x05\xf8\x00\x00\x00\x08\x02\x20\x28"},
	{strings.Repeat("\x02\x02\x02\x02\x01\x01\x00", 6), "\x02\x03\x20\xd2\x04\x08\x00\xf7\x8d\x32\xa5\xbf\x51\xa6"},
	{strings.Repeat("\x00\x01\x02\x03", 10), "\x02\x03\x40\x10\x42\x0b\xb0\xb1\xb1\xb1\xb1\xb1\xb1\xb1\xb1\xb1\x21"},
	// Greater tables.
	{strings.Repeat("\x00", 300) + "\x01", "\x02\x02\xf9\x05\x03\x40\x00\x0c"},
	{strings.Repeat(all, 3), "\x02\x16\xa2\x20\x10\x08\x04\x02\x81\x40\x20\x10\x08\x04\x82\x20\x08\x82\x20\x08\x42\x08\x21\x22\x35\xe0\xb8\x3a\x54\xfc\xa0\xb9\x3a\x14\x96\xf9\xb8\x6a\xfb\x92\x59\x87\xfa\xb6\xf9\x50\xf1\x83\xe6\xea\x50\x58\xe6\xe3\xaa\xed\x4b\x66\x1d\xea\xdb\xe6\x43\xc5\x0f\x9a\xab\x43\x61\x99\x8f\xab\xb6\x2f\x99\x75\xa8\x2f"},
}

// longer are streams that Stream doesn't answer, and what codes they have.
var longer = []struct {
	stream string
	codes  string
}{
	{"\x00\x07\x07", "\x07\x07"},
	{"\x00" + strings.Repeat("\x1b", 9), strings.Repeat("\x1b", 9)},
	{"\x01\x07", "\x07"},
	// No codes, and all that is asked for is there.
	{"\x01\x07", ""},
	{"\x02\x02\x00\x01\x01\x20", ""},
	// By a share of one.
	{"\x02\x02\x00\x01\x01\x20", "\x00\x00\x00"},
	// By other shares than theirs: 24 and 8 of 32, 16 and 16, a share that others have a part of too.
	{"\x02\x02\xc0\x10\x02\x1f\x01", "\x00\x00\x01\x00"},
	{"\x02\x02\x80\x20\x03\xfe\xff\x21", strings.Repeat("\x00\x01", 8)},
	{"\x02\x03\x40\x10\x42\x0b\xb0\xb1\xb1\xb1\xb1\xb1\xb1\xb1\xb1\xb1\x21", strings.Repeat("\x00\x01\x02\x03", 10)},
}

// wrong are texts that begin with no stream, of any of these numbers of codes.
var wrong = []struct {
	text string
	n    []int
}{
	{"", []int{0, 1, 2}},
	// Another kind.
	{"\x03", []int{0, 1}},
	{"\x03\x07\x07", []int{0, 1, 2}},
	{"\x80\x07\x07", []int{0, 1, 2}},
	{"\xff\x07\x07", []int{0, 1, 2}},
	// Too few bytes.
	{"\x00", []int{1, 2, most}},
	{"\x00\x07\x07", []int{3, 4, most}},
	{"\x01", []int{0, 1, 2, most}},
	{"\x02", []int{0, 1, 2}},
	{"\x02\x02\xc0", []int{0, 4}},
	{"\x02\x02\xc0\x10", []int{0, 4}},
	{"\x02\x02\xc0\x10\x02\x1f", []int{0, 4}},
	// No number in groups.
	{"\x02\x82\x00\xc0\x10\x02\x1f\x01", []int{4}},
	{"\x02\x02\xc0\x10\x82\x00\x1f\x01", []int{4}},
	{"\x02\xff\xff\xff\xff\xff\xff\xff\xff\xff\x02\xc0\x10\x02\x1f\x01", []int{4}},
	{"\x02\x02\xc0\x10\xff\xff\xff\xff\xff\xff\xff\xff\xff\x02\x1f\x01", []int{4}},
	// A code of 28 or more.
	{"\x00\x1c", []int{1}},
	{"\x00\x07\xff\x07", []int{2, 3}},
	{"\x01\x1c", []int{1, 2, most}},
	{"\x01\xff", []int{1, 2, most}},
	// No share: no bits, too few, a log above 9, a number above what is left.
	{"\x02\x00\x01\x20", []int{0, 1, 3}},
	{"\x02\x01\x00\x01\x20", []int{0, 1, 3}},
	{"\x02\x01\xc0\x02\x1f\x01", []int{4}},
	{"\x02\x02\x05\x20\x01\x20", []int{0, 1, 3}},
	{"\x02\x03\x05\x20\x00\x01\x20", []int{0, 1, 3}},
	{"\x02\x03\x07\x20\x00\x01\x20", []int{0, 1, 3}},
	{"\x02\x02\x08\x01\x01\x20", []int{0, 1, 3}},
	// More than the share takes: a byte, a bit.
	{"\x02\x03\x00\x01\x00\x01\x20", []int{0, 1, 3}},
	{"\x02\x03\xc0\x10\x00\x02\x1f\x01", []int{4}},
	{"\x02\x02\x00\x03\x01\x20", []int{0, 1, 3}},
	{"\x02\x02\x00\x81\x01\x20", []int{0, 1, 3}},
	{"\x02\x02\xc0\x30\x02\x1f\x01", []int{4}},
	{"\x02\x02\xc0\x90\x02\x1f\x01", []int{4}},
	// No symbols by it: no seal, too few bits, some left, another last state.
	{"\x02\x02\xc0\x10\x00", []int{0, 1, 4}},
	{"\x02\x02\xc0\x10\x01\x00", []int{0, 1, 4}},
	{"\x02\x02\xc0\x10\x01\x01", []int{0, 1, 4}},
	{"\x02\x02\xc0\x10\x02\x1f\x01", []int{0, 1, 2, 3, 5, 6}},
	{"\x02\x02\xc0\x10\x03\x1f\x01\x00", []int{4}},
	{"\x02\x02\xc0\x10\x03\x1f\x01\x01", []int{4}},
	{"\x02\x02\x00\x01\x01\x21", []int{0, 1, 3}},
	{"\x02\x02\x00\x01\x01\x40", []int{0, 1, 3}},
}

// A dice gives the same numbers in every run.
type dice uint64

func (d *dice) next() int {
	*d = *d*6364136223846793005 + 1442695040888963407
	return int(*d >> 33)
}

// codes makes n codes, of few or many, some of them more often than others.
func (d *dice) codes(n int) string {
	many, steep := 1+d.next()%28, d.next()%4
	b := make([]byte, n)
	for i := range b {
		c := d.next() % many
		for range steep {
			c = min(c, d.next()%many)
		}
		b[i] = byte(c)
	}
	return string(b)
}

// text tells how many bytes s has, in groups, and these.
func text(s string) string {
	return string(binary.AppendUvarint(nil, uint64(len(s)))) + s
}

// coming tells the text of at most 4096 bytes that s begins with, and what is behind it.
func coming(s string) (string, string, bool) {
	v, size := binary.Uvarint([]byte(s))
	if size <= 0 || string(binary.AppendUvarint(nil, v)) != s[:size] || v > most || uint64(len(s)-size) < v {
		return "", "", false
	}
	return s[size : size+int(v)], s[size+int(v):], true
}

// by tells the stream of kind 2 by a share.
func by(share []int, log int, codes string) (string, bool) {
	var w bits.Writer
	header.Put(&w, share, log)
	table, _ := spread.Build(share, log)
	code, ok := fse.Encode(table, []byte(codes))
	return "\x02" + text(string(w.Bytes())) + text(string(code)), ok
}

// shortest tells the shortest stream of the codes.
func shortest(codes string) string {
	least := "\x00" + codes
	if codes == "" {
		return least
	}
	if strings.Count(codes, codes[:1]) == len(codes) && len(least) > 2 {
		least = "\x01" + codes[:1]
	}
	counts := make([]int, 256)
	for _, c := range []byte(codes) {
		counts[c]++
	}
	log := count.Log(counts)
	share, ok := count.Share(counts, log)
	if !ok {
		return least
	}
	if other, _ := by(share, log, codes); len(other) < len(least) {
		return other
	}
	return least
}

// comingStream tells the n codes of the stream that s begins with, and what is behind it.
func comingStream(s string, n int) (string, string, bool) {
	if n < 0 || n > most || s == "" {
		return "", "", false
	}
	kind, s := s[0], s[1:]
	codes := ""
	switch {
	case kind == 0 && len(s) >= n:
		codes, s = s[:n], s[n:]
	case kind == 1 && len(s) >= 1:
		codes, s = strings.Repeat(s[:1], n), s[1:]
	case kind == 2:
		head, rest, is := coming(s)
		code, rest, ok := coming(rest)
		if !is || !ok {
			return "", "", false
		}
		share, log, ok := header.Take(bits.NewReader([]byte(head)))
		var w bits.Writer
		header.Put(&w, share, log)
		if !ok || string(w.Bytes()) != head {
			return "", "", false
		}
		table, _ := spread.Build(share, log)
		b, ok := fse.Decode(table, []byte(code), n)
		if !ok {
			return "", "", false
		}
		codes, s = string(b), rest
	default:
		return "", "", false
	}
	return codes, s, strings.Trim(codes, all) == ""
}

// isStream fails if Stream doesn't answer as it must, or Unstream doesn't bring the codes back.
func isStream(t *testing.T, codes string) {
	t.Helper()
	b := []byte(codes)
	want, got := shortest(codes), Stream(b)
	if got != want || string(b) != codes {
		t.Fatalf("Stream(%x): %x, not %x", codes, got, want)
	}
	for _, behind := range []string{"", "\x00", "\x01\x07", "all that is behind"} {
		unstream(t, got+behind, len(codes), codes, behind)
	}
}

// unstream fails if Unstream doesn't answer these codes.
func unstream(t *testing.T, s string, n int, codes, behind string) {
	t.Helper()
	for _, ahead := range []string{"", "\x02\x01"} {
		r := cursor.New(ahead + s)
		r.Raw(len(ahead))
		b, ok := Unstream(r, n)
		if string(b) != codes || !ok || r.Bad() || r.Rest() != behind {
			t.Fatalf("Unstream(%x, %d): %x, %v, not %x", s, n, b, ok, codes)
		}
	}
}

// noStream fails if Unstream doesn't refuse.
func noStream(t *testing.T, s string, n int) {
	t.Helper()
	if b, ok := Unstream(cursor.New(s), n); len(b) > 0 || ok {
		t.Fatalf("Unstream(%x, %d): %x, %v", s, n, b, ok)
	}
}

// anyStream fails if Unstream doesn't answer as it must.
func anyStream(t *testing.T, s string, n int) {
	t.Helper()
	codes, behind, ok := comingStream(s, n)
	if !ok {
		noStream(t, s, n)
		return
	}
	unstream(t, s, n, codes, behind)
}

// near fails if Unstream doesn't answer as it must of what is like a stream of n codes.
func near(t *testing.T, s string, n int) {
	t.Helper()
	for size := range len(s) {
		noStream(t, s[:size], max(n, 1))
	}
	for at := range len(s) {
		for bit := range 8 {
			other := []byte(s)
			other[at] ^= 1 << bit
			anyStream(t, string(other), n)
		}
	}
	for other := max(n-9, -1); other < n+9; other++ {
		anyStream(t, s, other)
	}
}

func TestStreamsWorkedOut(t *testing.T) {
	for _, c := range short {
		if s := Stream([]byte(c.codes)); s != c.stream {
			t.Fatalf("Stream(%x): %x, not %x", c.codes, s, c.stream)
		}
		isStream(t, c.codes)
		near(t, c.stream, len(c.codes))
	}
}

func TestOtherStreams(t *testing.T) {
	for _, c := range longer {
		unstream(t, c.stream+"behind", len(c.codes), c.codes, "behind")
		near(t, c.stream, len(c.codes))
	}
}

func TestWrongStreams(t *testing.T) {
	for _, c := range wrong {
		for _, n := range c.n {
			if _, _, ok := comingStream(c.text, n); ok {
				t.Fatalf("%x, %d", c.text, n)
			}
			noStream(t, c.text, n)
		}
	}
	for kind := 3; kind < 256; kind++ {
		for _, c := range short {
			noStream(t, string([]byte{byte(kind)})+c.stream[1:], len(c.codes))
		}
	}
}

func TestHowManyCodes(t *testing.T) {
	seven := strings.Repeat("\x07", most+1)
	wide, _ := by([]int{500, 12}, 9, strings.Repeat("\x00", most))
	wider, _ := by([]int{500, 12}, 9, strings.Repeat("\x00", most+1))
	unstream(t, "\x00"+seven, most, seven[1:], "\x07")
	unstream(t, "\x01\x07\x07", most, seven[1:], "\x07")
	unstream(t, wide, most, strings.Repeat("\x00", most), "")
	unstream(t, "\x00", 0, "", "")
	for _, s := range []string{"\x00" + seven, "\x01\x07", wider} {
		for _, n := range []int{most + 1, most + 2, 1 << 20, 1 << 32, math.MaxInt, -1, -2, -most, -1 << 32, math.MinInt + 1, math.MinInt} {
			noStream(t, s, n)
		}
	}
}

func TestTextsOfAStream(t *testing.T) {
	// Each code has 9 bits, and there are a state and a seal.
	for n, size := range map[int]int{3638: 4094, 3639: most, 3640: most + 1, most: 4610} {
		codes := strings.Repeat("\x00", n)
		s, _ := by([]int{1, 511}, 9, codes)
		if len(s) != size+7 {
			t.Fatal(len(s))
		}
		if size <= most {
			unstream(t, s, n, codes, "")
		} else {
			noStream(t, s, n)
		}
	}
	unstream(t, "\x02"+text("\xc0\x10")+text("\x1f\x01"), 4, "\x00\x00\x01\x00", "")
	for _, size := range []int{1, 2, 125, 126, most - 2, most - 1, 1 << 20} {
		nought := strings.Repeat("\x00", size)
		noStream(t, "\x02"+text("\xc0\x10"+nought)+text("\x1f\x01"), 4)
		noStream(t, "\x02"+text("\xc0\x10")+text("\x1f\x01"+nought), 4)
		noStream(t, "\x02"+text("\xc0\x10")+text("\x1f"+nought+"\x01"), 4)
	}
}

func TestNoCodesInAStream(t *testing.T) {
	for c := range 256 {
		one := string([]byte{byte(c)})
		for n := range 5 {
			anyStream(t, "\x00"+strings.Repeat("\x07", n)+one+"\x07", n+2)
			anyStream(t, "\x01"+one, n)
		}
		share := make([]int, c+2)
		share[c], share[c+1] = 20, 12
		if c == 255 {
			share = append(make([]int, 254), 12, 20)
		}
		s, ok := by(share, 5, strings.Repeat(one, 9))
		if !ok {
			t.Fatal(c)
		}
		if c < 28 {
			unstream(t, s, 9, strings.Repeat(one, 9), "")
		} else {
			noStream(t, s, 9)
		}
		// What has a part of the share, and doesn't come, is no code.
		share = make([]int, max(c, 4)+1)
		share[c] = 7
		share[3] += 25
		s, _ = by(share, 5, "\x03\x03\x03")
		unstream(t, s, 3, "\x03\x03\x03", "")
	}
}

func TestStreamOfNoCodes(t *testing.T) {
	for c := 28; c < 256; c++ {
		for _, codes := range []string{"", "\x01", "\x00\x00\x00", strings.Repeat("\x03", 40)} {
			for _, n := range []int{1, 2, 50} {
				other := codes + strings.Repeat(string([]byte{byte(c)}), n)
				s := Stream([]byte(other))
				if s != shortest(other) {
					t.Fatalf("Stream(%x): %x", other, s)
				}
				noStream(t, s, len(other))
			}
		}
	}
}

func TestStreamOfMany(t *testing.T) {
	const mostCount = 1 << 20
	for _, c := range []struct {
		n, few int
		kind   byte
	}{
		{most + 1, 0, 1},
		{most + 1, 5, 2},
		{mostCount + 1, 0, 1},
		{mostCount + 1, 1, 2},
		{mostCount + 2, 1, 0},
		{2 * mostCount, mostCount, 2},
		{2*mostCount + 1, mostCount, 0},
	} {
		b := append(bytes.Repeat([]byte{4}, c.n-c.few), bytes.Repeat([]byte{9}, c.few)...)
		s := Stream(b)
		if s[0] != c.kind || s != shortest(string(b)) {
			t.Fatal(c, s[0], len(s))
		}
		noStream(t, s, c.n)
	}
}

func TestAStreamOfNoReader(t *testing.T) {
	for _, n := range []int{math.MinInt, -1, 0, 1, most, math.MaxInt} {
		bad := cursor.New("\x00")
		bad.Raw(2)
		for _, r := range []*cursor.Reader{nil, bad, {}} {
			if b, ok := Unstream(r, n); len(b) > 0 || ok {
				t.Fatalf("%x, %v", b, ok)
			}
		}
	}
}

func TestStreamsOneBehindTheOther(t *testing.T) {
	var s string
	for _, c := range short {
		s += Stream([]byte(c.codes))
	}
	for _, c := range longer {
		s += c.stream
	}
	r := cursor.New(s + "end")
	for _, c := range short {
		if b, ok := Unstream(r, len(c.codes)); string(b) != c.codes || !ok {
			t.Fatalf("%x, %v, not %x", b, ok, c.codes)
		}
	}
	for _, c := range longer {
		if b, ok := Unstream(r, len(c.codes)); string(b) != c.codes || !ok {
			t.Fatalf("%x, %v, not %x", b, ok, c.codes)
		}
	}
	if r.Rest() != "end" {
		t.Fatal(r.Bad())
	}
}

func TestEachShortStream(t *testing.T) {
	for i := range 256 * 256 {
		s := string([]byte{byte(i), byte(i / 256)})
		for _, n := range []int{0, 1, 2} {
			anyStream(t, s[:1], n)
			anyStream(t, s, n)
		}
		anyStream(t, "\x02\x02"+s+"\x01\x20", 3)
		anyStream(t, "\x02\x02\xc0\x10\x02"+s, 4)
		anyStream(t, "\x02\x02\xc0\x10\x02"+s, i%8)
	}
	for n := range 9 {
		total := 1
		for range n {
			total *= 3
		}
		for i := range total {
			b := make([]byte, n)
			for at := range b {
				b[at] = byte(i % 3)
				i /= 3
			}
			isStream(t, string(b))
		}
	}
}

func TestAnyStreams(t *testing.T) {
	d := dice(16)
	var kinds [3]int
	for range 2000 {
		codes := d.codes(d.next() % (1 + d.next()%most))
		if d.next()%4 > 0 {
			codes = codes[:len(codes)%60]
		}
		isStream(t, codes)
		s := []byte(Stream([]byte(codes)))
		kinds[s[0]]++
		for range 9 {
			s[d.next()%len(s)] ^= 1 << (d.next() % 8)
			anyStream(t, string(s), len(codes))
		}
	}
	if slices.Min(kinds[:]) < 50 {
		t.Fatal(kinds)
	}
}

func TestAStreamIsNewMemory(t *testing.T) {
	for _, c := range short {
		r := cursor.New(c.stream + c.stream)
		// A copy of a reader goes on by itself.
		other := *r
		first, _ := Unstream(r, len(c.codes))
		second, _ := Unstream(r, len(c.codes))
		third, ok := Unstream(&other, len(c.codes))
		for i := range first {
			first[i] = 0xff
		}
		if !ok || string(second) != c.codes || string(third) != c.codes || !r.Done() || other.Rest() != c.stream {
			t.Fatalf("%x, %x", second, third)
		}
		if Stream(second) != c.stream || Stream(second) != c.stream {
			t.Fatalf("%x", c.stream)
		}
	}
}

func FuzzStream(f *testing.F) {
	for _, c := range short {
		f.Add(c.codes)
	}
	f.Fuzz(func(t *testing.T, codes string) {
		b := []byte(codes)
		for i := range b {
			b[i] %= 28
		}
		isStream(t, string(b[:min(len(b), most)]))
	})
}

func FuzzUnstream(f *testing.F) {
	for _, c := range short {
		f.Add(c.stream, len(c.codes))
	}
	for _, c := range longer {
		f.Add(c.stream, len(c.codes))
	}
	for _, c := range wrong {
		f.Add(c.text, c.n[0])
	}
	f.Fuzz(anyStream)
}
