package block

import (
	"encoding/binary"
	"math"
	"strings"
	"testing"

	"pemmican/api"
	"pemmican/cursor"
	"pemmican/lits"
	"pemmican/parse"
	"pemmican/seqs"
	"pemmican/sum"
)

// blocks are records, and blocks of them, worked out beside the program.
var blocks = []struct {
	record, dict string
	epoch, level int
	block        string
}{
	{"", "", 0, 1, "\x00\x00\x00ff\x02\xab\xae\x08cE"},
	{"", "abc", 7, 3, "\x00\x07\x00ff\x02\xab\xae\x08cE"},
	// All of it is one byte.
	{"a", "", 0, 0, "\x01\x00\x01\xbfp\xf0I\x8e\x5c\xf5+a"},
	{"aaaa", "aaaa", 127, 3, "\x01\x7f\x04\x9b\xb6?\xcaTh\x86\xe9a"},
	{"\x00\x00", "", 128, -1, "\x01\x80\x01\x02\xff\xc7\xae\x9b\xc6\x0fw\x08\x00"},
	{"\xff\xff\xff", "", 1073741824, 4, "\x01\x80\x80\x80\x80\x04\x034\x9e\x19/S%<s\xff"},
	// Nothing is gained.
	{"ab", "ab", 0, 3, "\x00\x00\x02<&\x90\x01\xe3\x9f \x1aab"},
	{"the quick brown fox", "", 300, 3, "\x00\xac\x02\x13\x99\xd6\xd1^\xe2\xad\xb77the quick brown fox"},
	// By steps just as long, a byte less, and not by steps.
	{"abcabcabcabca", "", 1, 1, "\x00\x01\x0d\x1f\xb5\x1dc\xcco\x85Gabcabcabcabca"},
	{"abcabcabcabcab", "", 1, 1, "\x02\x01\x0e\xa4\xc7-B\x7f\xa0\x84W\x00\x03abc\x01\x00\x03\x00\x08\x00\x05\x00"},
	{"abcabcabcabcab", "", 1, 0, "\x00\x01\x0e\xa4\xc7-B\x7f\xa0\x84Wabcabcabcabcab"},
	{"abcabcabcabcabcabcabcabcabcabc", "", 1, 2, "\x02\x01\x1e\xab\x90Z\xfaSD@\xb4\x00\x03abc\x01\x00\x03\x00\x10\x00\x05\x01\x08"},
	// By a dictionary just as long, a byte less, and without it.
	{"0123456789", "0123456789abc", 2, 1, "\x00\x02\x0a\xbb\x86\xa8\x1b2\xa5\xb4\xb60123456789"},
	{"0123456789a", "0123456789abc", 2, 1, "\x02\x02\x0b&\xa6\x12k\x07\x0a\xdb\xbb\x00\x00\x01\x00\x00\x00\x08\x00\x0f\x00"},
	{"0123456789a", "", 2, 1, "\x00\x02\x0b&\xa6\x12k\x07\x0a\xdb\xbb0123456789a"},
	// No steps, the literals in code: just as long, and a byte less.
	{"\x00\x01\x00\x01\x00\x01\x00", "", 0, 0, "\x00\x00\x07PC\x8f\xf4\x0d\x04\x8b\xb6\x00\x01\x00\x01\x00\x01\x00"},
	{"\x00\x01\x00\x01\x00\x01\x00\x01", "", 0, 0, "\x02\x00\x08\x0f1\xf0\xafC\xb4k\xbe\x02\x08\x01\x11\x01\xaa\x00"},
	{"\x00\x01\x00\x01\x00\x01\x00\x01", "", 0, -7, "\x02\x00\x08\x0f1\xf0\xafC\xb4k\xbe\x02\x08\x01\x11\x01\xaa\x00"},
}

// others are blocks that Encode doesn't make, and of what records they are, by which dictionary.
var others = []struct {
	block, dict, record string
}{
	{"\x00\x00\x04\x9b\xb6?\xcaTh\x86\xe9aaaa", "", "aaaa"},
	{"\x00\x80\x80\x80\x80\x04\x01\xbfp\xf0I\x8e\x5c\xf5+a", "", "a"},
	// No bytes, and all that is asked for is there.
	{"\x01\x00\x00ff\x02\xab\xae\x08cEa", "", ""},
	{"\x02\x00\x00ff\x02\xab\xae\x08cE\x00\x00\x00", "", ""},
	{"\x02\x00\x00ff\x02\xab\xae\x08cE\x01\x00a\x00", "", ""},
	// Longer than it itself.
	{"\x02\x00\x02<&\x90\x01\xe3\x9f \x1a\x00\x02ab\x00", "", "ab"},
	{"\x02\x00\x04\x9b\xb6?\xcaTh\x86\xe9\x01\x04a\x00", "", "aaaa"},
	{"\x02\x00\x04\x9b\xb6?\xcaTh\x86\xe9\x00\x04aaaa\x00", "", "aaaa"},
	{"\x02\x00\x04\x9b\xb6?\xcaTh\x86\xe9\x01\x01a\x01\x00\x01\x00\x00\x00\x00\x00", "", "aaaa"},
	{"\x02\x00\x04)\x9e\xadE_R\xc7\xa7\x02\x04\x01\x11\x01\x06\x00", "", "\x00\x01\x01\x00"},
	{"\x02\x00\x06>\xdc3A\xa4\xdd\xcf\x10\x00\x03abc\x01\x00\x03\x00\x00\x00\x05\x00", "", "abcabc"},
	{"\x02\x05\x07\xb2\x0b\xd2\xeb1#(\x8e\x00\x04abcd\x01\x00\x03\x00\x00\x00\x05\x00", "", "abcabcd"},
	// Other steps than the best, by dictionaries.
	{"\x02\x09\x05Ti\x94\xd6\x85jT\x9a\x00\x00\x01\x00\x00\x00\x02\x00\x01\x00", "ab", "ababa"},
	{"\x02\xc8\x01\x10^H7gL<V\xd8\x00\x03!?.\x04\x00\x01\x00\x01\x00\x00\x00\x01\x00\x00\x00\x01\x09\x01\x06\x00", "xyz", "!z!zxyz!?!?!?!?."},
	{"\x02\x03\x0c\xe13YX\xa0m\xfb?\x01\x03!\x03\x00\x01\x01\x00\x01\x00\x00\x02\x00\x00\x00", "xyz", "!xyz!xyz!xy!"},
	{"\x02\x03\x0c\x97\xd7\x04E\x14(\xce\x98\x00\x00\x04\x00\x00\x00\x00\x00\x00\x00\x00\x00\x00\x00\x05\x00\x00\x00\x00", "xyz", "xyzxyzxyzxyz"},
	{"\x02\x03\xa3\x01=\xfc\x80\xfc&)\xdf\xbd\x00\x00\x03\x01\x00\x00\x00\x11\x12\x00\x05\x02\x11\x029\x04", "xyz", "xyz" + strings.Repeat("yz", 80)},
}

// A dice gives the same numbers in every run.
type dice uint64

func (d *dice) next() int {
	*d = *d*6364136223846793005 + 1442695040888963407
	return int(*d >> 33)
}

// text makes n bytes: of few letters, of any, or pieces of those there are and of what is ahead of them.
func (d *dice) text(ahead string, n int) string {
	few, anew := 1<<(d.next()%9), 1+d.next()%(1+d.next()%30)
	b := []byte(ahead)
	for len(b) < len(ahead)+n {
		if len(b) == 0 || d.next()%anew == 0 {
			b = append(b, byte(d.next()%few))
			continue
		}
		back := 1 + d.next()%len(b)
		for range d.next() % 40 {
			b = append(b, b[len(b)-back])
		}
	}
	return string(b[len(ahead) : len(ahead)+n])
}

// group tells n in groups.
func group(n int) string {
	return string(binary.AppendUvarint(nil, uint64(n)))
}

// fixed tells a sum in 8 bytes.
func fixed(v uint64) string {
	return string(binary.LittleEndian.AppendUint64(nil, v))
}

// whole tells a block of that kind and epoch, which tells b's number of bytes and sum.
func whole(kind byte, epoch int, b, behind string) string {
	return string([]byte{kind}) + group(epoch) + group(len(b)) + fixed(sum.Of(b)) + behind
}

// made tells the block of b.
func made(b, dict string, epoch, level int) string {
	if b != "" && strings.Count(b, b[:1]) == len(b) {
		return whole(1, epoch, b, b[:1])
	}
	l := parse.Steps(dict, b, level)
	section, ok := seqs.Encode(l)
	short := lits.Encode(parse.Literals(b, l)) + section
	if ok && len(short) < len(b) {
		return whole(2, epoch, b, short)
	}
	return whole(0, epoch, b, b)
}

// told is what a block tells ahead of its record.
type told struct {
	epoch, size int
	sum         uint64
	at          int
}

// ahead tells what s tells, if it tells it.
func ahead(s string) (told, bool) {
	if s == "" || s[0] > 2 {
		return told{}, false
	}
	at := 1
	var numbers [2]uint64
	for i, most := range []uint64{1 << 30, 1 << 40} {
		v, size := binary.Uvarint([]byte(s[at:]))
		if size <= 0 || string(binary.AppendUvarint(nil, v)) != s[at:at+size] || v > most {
			return told{}, false
		}
		numbers[i] = v
		at += size
	}
	if len(s) < at+8 {
		return told{}, false
	}
	return told{int(numbers[0]), int(numbers[1]), binary.LittleEndian.Uint64([]byte(s[at : at+8])), at + 8}, true
}

// coming tells the record of the block s, or the error.
func coming(s, dict string, limit int) (string, api.Errno) {
	h, ok := ahead(s)
	if !ok {
		return "", api.ErrForm
	}
	if h.size > limit || h.size > 512 {
		return "", api.ErrLong
	}
	b, ok := s[h.at:], true
	switch s[0] {
	case 1:
		ok = len(b) == 1
		b = strings.Repeat(b, h.size)
	case 2:
		b, ok = walk(s[h.at:], dict)
	}
	if !ok || len(b) != h.size {
		return "", api.ErrForm
	}
	if sum.Of(b) != h.sum {
		return "", api.ErrSum
	}
	return b, api.OK
}

// walk tells the text that the sections make that s is, if it is no longer than a record may be.
func walk(s, dict string) (string, bool) {
	r := cursor.New(s)
	literals, ok := lits.Decode(r, 1<<20)
	if !ok {
		return "", false
	}
	l, ok := seqs.Decode(r, 1000)
	if !ok || !r.Done() {
		return "", false
	}
	b := []byte(dict)
	for _, step := range l {
		if step.Lits > len(literals) {
			return "", false
		}
		b = append(b, literals[:step.Lits]...)
		literals = literals[step.Lits:]
		if step.Offset > len(b) {
			return "", false
		}
		for range step.Match {
			b = append(b, b[len(b)-step.Offset])
		}
		if len(b) > len(dict)+512 {
			return "", false
		}
	}
	return string(b[len(dict):]) + literals, true
}

// encode fails if Encode doesn't answer as it must, or Decode doesn't bring b back.
func encode(t *testing.T, b, dict string, epoch, level int) string {
	t.Helper()
	want := made(b, dict, epoch, level)
	got, err := Encode(b, dict, epoch, level)
	if got != want || err != api.OK {
		t.Fatalf("Encode(%x, %x, %d, %d): %x, %d, not %x", b, dict, epoch, level, got, err, want)
	}
	if len(got) > len(b)+16 {
		t.Fatalf("Encode(%x, %x, %d, %d): %d bytes", b, dict, epoch, level, len(got))
	}
	for _, limit := range []int{len(b), 512, 513, math.MaxInt} {
		if s, err := Decode(got, dict, limit); s != b || err != api.OK {
			t.Fatalf("Decode(%x, %x, %d): %x, %d, not %x", got, dict, limit, s, err, b)
		}
	}
	if s, err := Decode(got, dict, len(b)-1); s != "" || err != api.ErrLong {
		t.Fatalf("Decode(%x, %x, %d): %x, %d", got, dict, len(b)-1, s, err)
	}
	decode(t, got, "", 512)
	decode(t, got, "another dictionary, of "+dict, 512)
	decode(t, got+"\x00", dict, 512)
	if n, err := Epoch(got); n != epoch || err != api.OK {
		t.Fatalf("Epoch(%x): %d, %d", got, n, err)
	}
	if n, err := Size(got); n != len(b) || err != api.OK {
		t.Fatalf("Size(%x): %d, %d", got, n, err)
	}
	return got
}

// decode fails if Decode, Epoch or Size doesn't answer as it must.
func decode(t *testing.T, s, dict string, limit int) {
	t.Helper()
	want, wrong := coming(s, dict, limit)
	if got, err := Decode(s, dict, limit); got != want || err != wrong {
		t.Fatalf("Decode(%x, %x, %d): %x, %d, not %x, %d", s, dict, limit, got, err, want, wrong)
	}
	wrong = api.OK
	h, ok := ahead(s)
	if !ok {
		wrong = api.ErrForm
	}
	if n, err := Epoch(s); n != h.epoch || err != wrong {
		t.Fatalf("Epoch(%x): %d, %d, not %d, %d", s, n, err, h.epoch, wrong)
	}
	if n, err := Size(s); n != h.size || err != wrong {
		t.Fatalf("Size(%x): %d, %d, not %d, %d", s, n, err, h.size, wrong)
	}
}

// refused fails if Decode doesn't answer that error.
func refused(t *testing.T, s, dict string, limit int, want api.Errno) {
	t.Helper()
	if got, err := Decode(s, dict, limit); got != "" || err != want {
		t.Fatalf("Decode(%x, %x, %d): %x, %d, not %d", s, dict, limit, got, err, want)
	}
	decode(t, s, dict, limit)
}

// cut fails if Decode takes less or more than the whole block s of a record of n bytes, or answers otherwise than it must of what is like it.
func cut(t *testing.T, s, dict string, n int) {
	t.Helper()
	for size := range len(s) {
		refused(t, s[:size], dict, 512, api.ErrForm)
	}
	for _, behind := range []string{"\x00", "\x01", "a", "behind", s} {
		refused(t, s+behind, dict, 512, api.ErrForm)
	}
	h, _ := ahead(s)
	for at := range len(s) {
		for bit := range 8 {
			other := []byte(s)
			other[at] ^= 1 << bit
			decode(t, string(other), dict, 512)
			decode(t, string(other), dict, n)
			if at >= h.at-8 && at < h.at {
				refused(t, string(other), dict, n, api.ErrSum)
			}
		}
	}
}

func TestExample(t *testing.T) {
	s, err := Encode("", "", 0, 0)
	if len(s) != 11 || s[0] != 0 || err != api.OK {
		t.Fatalf("%x, %d", s, err)
	}
	if b, err := Decode(s, "", 0); b != "" || err != api.OK {
		t.Fatal(b, err)
	}
}

func TestBlocksWorkedOut(t *testing.T) {
	for _, w := range blocks {
		if s, err := Encode(w.record, w.dict, w.epoch, w.level); s != w.block || err != api.OK {
			t.Fatalf("Encode(%x, %x, %d, %d): %x, %d, not %x", w.record, w.dict, w.epoch, w.level, s, err, w.block)
		}
		encode(t, w.record, w.dict, w.epoch, w.level)
		cut(t, w.block, w.dict, len(w.record))
	}
}

func TestOtherBlocks(t *testing.T) {
	for _, w := range others {
		for _, limit := range []int{len(w.record), len(w.record) + 1, 512, 513, math.MaxInt} {
			if b, err := Decode(w.block, w.dict, limit); b != w.record || err != api.OK {
				t.Fatalf("Decode(%x, %x, %d): %x, %d", w.block, w.dict, limit, b, err)
			}
		}
		for _, limit := range []int{len(w.record) - 1, -1, math.MinInt} {
			refused(t, w.block, w.dict, limit, api.ErrLong)
		}
		cut(t, w.block, w.dict, len(w.record))
	}
}

func TestKinds(t *testing.T) {
	for kind := range 256 {
		for _, w := range blocks {
			s := string([]byte{byte(kind)}) + w.block[1:]
			decode(t, s, w.dict, 512)
			if kind > 2 {
				refused(t, s, w.dict, 512, api.ErrForm)
				refused(t, s, w.dict, -1, api.ErrForm)
			}
		}
	}
}

func TestEpochs(t *testing.T) {
	for _, record := range []string{"", "aaaa", "abc", "abcabcabcabcab"} {
		for _, epoch := range []int{0, 1, 127, 128, 300, 1<<14 - 1, 1 << 14, 1<<28 - 1, 1 << 28, 1<<30 - 1, 1 << 30} {
			encode(t, record, "abcdef", epoch, 1)
		}
		for _, epoch := range []int{math.MinInt, -1 << 32, -1, 1<<30 + 1, 1 << 31, 1 << 32, 1<<32 + 1, math.MaxInt} {
			if s, err := Encode(record, "", epoch, 1); s != "" || err != api.ErrArg {
				t.Fatalf("Encode(%x) of epoch %d: %x, %d", record, epoch, s, err)
			}
		}
	}
}

func TestEpochsToldWrong(t *testing.T) {
	behind := "\x01" + fixed(sum.Of("a")) + "a"
	for _, epoch := range []string{"\x80\x80\x80\x80\x04", "\xff\xff\xff\xff\x03", "\x00"} {
		if b, err := Decode("\x00"+epoch+behind, "", 9); b != "a" || err != api.OK {
			t.Fatalf("%x: %x, %d", epoch, b, err)
		}
	}
	for _, epoch := range []string{
		"\x81\x80\x80\x80\x04", "\x80\x80\x80\x80\x08", "\x80\x80\x80\x80\x80\x80\x80\x80\x80\x01", "\xff\xff\xff\xff\xff\xff\xff\xff\xff\x01",
		"\x80\x00", "\x81\x80\x00", "\xff\xff\xff\xff\xff\xff\xff\xff\xff\x02", "\xff\xff\xff\xff\xff\xff\xff\xff\xff\xff\x01",
	} {
		for _, limit := range []int{-1, 0, 9, 512} {
			refused(t, "\x00"+epoch+behind, "", limit, api.ErrForm)
		}
	}
}

func TestSizesTold(t *testing.T) {
	behind := fixed(0) + "a"
	for _, n := range []int{513, 600, 1 << 14, 1 << 32, 1<<40 - 1, 1 << 40} {
		for kind := range 3 {
			s := string([]byte{byte(kind)}) + "\x05" + group(n) + behind
			for _, limit := range []int{math.MinInt, 0, 512, n - 1, n, n + 1, math.MaxInt} {
				refused(t, s, "", limit, api.ErrLong)
				refused(t, s[:len(s)-1], "", limit, api.ErrLong)
				refused(t, s[:len(s)-2], "", limit, api.ErrForm)
			}
			if got, err := Size(s); got != n || err != api.OK {
				t.Fatalf("Size(%x): %d, %d", s, got, err)
			}
			if got, err := Epoch(s); got != 5 || err != api.OK {
				t.Fatalf("Epoch(%x): %d, %d", s, got, err)
			}
		}
	}
	for _, n := range []string{
		group(1<<40 + 1), group(1 << 41), group(1 << 62), group(math.MaxInt), "\x80\x80\x80\x80\x80\x80\x80\x80\x80\x01",
		"\xff\xff\xff\xff\xff\xff\xff\xff\xff\x01", "\x80\x00", "\x81\x00", "\xff\xff\xff\xff\xff\xff\xff\xff\xff\x02",
	} {
		for kind := range 3 {
			for _, limit := range []int{-1, 0, 512, math.MaxInt} {
				refused(t, string([]byte{byte(kind)})+"\x05"+n+behind, "", limit, api.ErrForm)
			}
		}
	}
}

func TestMoreThanMayBe(t *testing.T) {
	long, dict := strings.Repeat("ab", 256), strings.Repeat("cd", 128)
	for _, level := range []int{-1, 0, 1, 3, 9} {
		encode(t, long, dict, 1<<30, level)
		for _, epoch := range []int{0, 1 << 30, -1, 1<<30 + 1} {
			for _, w := range []struct{ b, dict string }{
				{long + "a", ""}, {long + "a", dict}, {"", dict + "c"}, {"aaaa", dict + "c"}, {long, dict + "c"},
				{long + "a", dict + "c"}, {strings.Repeat("a", 513), ""}, {strings.Repeat("a", 100000), dict}, {"a", strings.Repeat("a", 100000)},
			} {
				if s, err := Encode(w.b, w.dict, epoch, level); s != "" || err != api.ErrLong {
					t.Fatalf("Encode of %d bytes, by %d: %x, %d", len(w.b), len(w.dict), s, err)
				}
			}
		}
	}
}

func TestTheLongestBlock(t *testing.T) {
	b := make([]byte, 512)
	d := dice(1)
	for i := range b {
		b[i] = byte(d.next())
	}
	s := encode(t, string(b), "", 1<<30, 3)
	if s[0] != 0 || len(s) != 512+16 {
		t.Fatal(s[0], len(s))
	}
}

func TestEachNumberOfBytes(t *testing.T) {
	d := dice(9)
	for n := range 513 {
		encode(t, strings.Repeat("\x00", n), "", n, 1)
		encode(t, d.text("", n), "", n, 1)
		dict := d.text("", n/2)
		encode(t, d.text(dict, n), dict, n, 3)
	}
}

func TestLevels(t *testing.T) {
	d := dice(12)
	for range 20 {
		dict := d.text("", d.next()%257)
		b := d.text(dict, d.next()%513)
		low, high := encode(t, b, dict, 1, 0), encode(t, b, dict, 1, 3)
		for _, level := range []int{math.MinInt, -4, -1} {
			if s := encode(t, b, dict, 1, level); s != low {
				t.Fatalf("%d: %x, not %x", level, s, low)
			}
		}
		encode(t, b, dict, 1, 1)
		encode(t, b, dict, 1, 2)
		for _, level := range []int{4, 64, math.MaxInt} {
			if s := encode(t, b, dict, 1, level); s != high {
				t.Fatalf("%d: %x, not %x", level, s, high)
			}
		}
	}
}

func TestWhatStandsBehind(t *testing.T) {
	for _, w := range []struct {
		kind         byte
		dict, record string
		behind       string
	}{
		{0, "", "aaaa", "aaa"},
		{0, "", "aaaa", "aaaaa"},
		{0, "", "", "a"},
		{0, "", "a", ""},
		{1, "", "aaaa", ""},
		{1, "", "aaaa", "aa"},
		{1, "", "aaaa", "aaaa"},
		{1, "", "", ""},
		{1, "", "", "aa"},
		// No sections.
		{2, "", "", ""},
		{2, "", "", "\x00"},
		{2, "", "", "\x00\x00"},
		{2, "", "", "\x01\x00\x00"},
		{2, "", "aaaa", "\x01\x04a"},
		{2, "", "aaaa", "\x03\x04a\x00"},
		{2, "", "aaaa", "\x00\x04aaa\x00"},
		{2, "", "aaaa", "\x00\x04aaaa\x01"},
		{2, "", "aaaa", "\x00\x04aaaa\x00\x00"},
		{2, "", "aaaa", "\x01\x01a\x01\x00\x01\x00\x00\x00\x00"},
		{2, "", "aaaa", "\x01\x01a\x01\x00\x01\x00\x00\x03\x00\x00"},
		{2, "", "aaaa", "\x01\x01a\x01\x00\x01\x00\x00\x00\x00\x01\x00"},
		// Another number of bytes.
		{2, "", "aaaa", "\x01\x03a\x00"},
		{2, "", "aaaa", "\x01\x05a\x00"},
		{2, "", "aaaa", "\x01\x80\x80\x40a\x00"},
		{2, "", "aaaaa", "\x01\x01a\x01\x00\x01\x00\x00\x00\x00\x00"},
		{2, "", "aaa", "\x01\x01a\x01\x00\x01\x00\x00\x00\x00\x00"},
		{2, "", "aaa", "\x01\x02a\x01\x00\x01\x00\x00\x00\x00\x00"},
		{2, "", "", "\x01\x01a\x00"},
		{2, "", "", "\x01\x01a\x01\x00\x01\x00\x00\x00\x00\x00"},
		{2, "a", "aa", "\x00\x00\x01\x00\x00\x00\x00\x00\x00\x00"},
		{2, "a", "aaaa", "\x00\x00\x01\x00\x00\x00\x00\x00\x00\x00"},
		// Steps that go beyond what is there.
		{2, "", "aaaa", "\x01\x01a\x01\x00\x02\x00\x00\x00\x00\x00"},
		{2, "", "aaaa", "\x01\x01a\x01\x00\x01\x00\x00\x00\x01\x00"},
		{2, "a", "aaa", "\x00\x00\x01\x00\x00\x00\x00\x00\x01\x00"},
		{2, "", "aaa", "\x00\x00\x01\x00\x00\x00\x00\x00\x00\x00"},
		// A match of very many bytes.
		{2, "a", "aaa", "\x00\x00\x01\x00\x00\x00\x1b\x00\x00\x02\xff\x7f"},
	} {
		s := whole(w.kind, 6, w.record, w.behind)
		if n, err := Size(s); n != len(w.record) || err != api.OK {
			t.Fatalf("Size(%x): %d, %d", s, n, err)
		}
		refused(t, s, w.dict, 512, api.ErrForm)
		refused(t, s, w.dict, len(w.record), api.ErrForm)
		refused(t, s, w.dict, len(w.record)-1, api.ErrLong)
		// The sum is looked at last.
		refused(t, s[:3]+"\xff\xff\xff\xff\xff\xff\xff\xff"+s[11:], w.dict, 512, api.ErrForm)
	}
}

func TestAnotherSum(t *testing.T) {
	for _, w := range []struct{ record, other, behind string }{
		{"aaaa", "aaab", "\x00aaaa"}, {"aaaa", "bbbb", "\x01a"}, {"aaaa", "aaab", "\x02\x01\x04a\x00"},
	} {
		s := whole(w.behind[0], 6, w.record, w.behind[1:])
		decode(t, s, "", 4)
		refused(t, whole(w.behind[0], 6, w.other, w.behind[1:]), "", 4, api.ErrSum)
		refused(t, whole(w.behind[0], 6, w.other, w.behind[1:]), "", 3, api.ErrLong)
		for bit := range 64 {
			other := s[:3] + fixed(sum.Of(w.record)^1<<bit) + s[11:]
			refused(t, other, "", 512, api.ErrSum)
		}
	}
}

func TestAnotherDictionary(t *testing.T) {
	record := "one two three four five six seven"
	s := encode(t, record, record, 4, 3)
	if s[0] != 2 || len(s) > 24 {
		t.Fatalf("%x", s)
	}
	for at := range record {
		other := record[:at] + "\x00" + record[at+1:]
		refused(t, s, other, 512, api.ErrSum)
		if at > 0 {
			// Something is missing ahead: what is there isn't where it was.
			refused(t, s, record[at:], 512, api.ErrForm)
			refused(t, s, record[at:]+record[:at], 512, api.ErrSum)
		}
	}
	refused(t, s, "", 512, api.ErrForm)
	refused(t, s, record+".", 512, api.ErrSum)
	// What is ahead of it doesn't count: also of more bytes than a dictionary has.
	for _, ahead := range []string{"x", "eight, nine, ten", strings.Repeat("y", 5000)} {
		if b, err := Decode(s, ahead+record, 512); b != record || err != api.OK {
			t.Fatalf("%x, %d", b, err)
		}
	}
}

func TestBlocksThatNeedNoDictionary(t *testing.T) {
	for _, dict := range []string{"", "a", strings.Repeat("b", 5000)} {
		for _, w := range blocks {
			if w.dict != "" {
				continue
			}
			if b, err := Decode(w.block, dict, 512); b != w.record || err != api.OK {
				t.Fatalf("Decode(%x, %.9x): %x, %d", w.block, dict, b, err)
			}
		}
	}
}

func TestLimits(t *testing.T) {
	for _, n := range []int{0, 1, 2, 511, 512} {
		for _, s := range []string{
			whole(0, 3, strings.Repeat("a", n), strings.Repeat("a", n)),
			whole(1, 3, strings.Repeat("a", n), "a"),
			whole(2, 3, strings.Repeat("a", n), "\x01"+group(n)+"a\x00"),
		} {
			for _, limit := range []int{math.MinInt, math.MinInt + 1, -1 << 40, -512, -1, 0, 1, 2, 3, 510, 511, 512, 513, 1 << 40, math.MaxInt} {
				want := api.OK
				if n > limit {
					want = api.ErrLong
				}
				if b, err := Decode(s, "", limit); err != want || err == api.OK && b != strings.Repeat("a", n) || err != api.OK && b != "" {
					t.Fatalf("Decode(%x, %d): %x, %d", s, limit, b, err)
				}
			}
		}
	}
	// A byte more than a record may have, and all else as it should be.
	for _, s := range []string{
		whole(0, 3, strings.Repeat("a", 513), strings.Repeat("a", 513)),
		whole(1, 3, strings.Repeat("a", 513), "a"),
		whole(2, 3, strings.Repeat("a", 513), "\x01\x81\x04a\x00"),
	} {
		refused(t, s, "", 513, api.ErrLong)
		refused(t, s, "", math.MaxInt, api.ErrLong)
	}
}

func TestMostSteps(t *testing.T) {
	// 170 matches, of three bytes each.
	record := strings.Repeat("abc", 170)
	l := make([]api.Seq, 170)
	for i := range l {
		l[i] = api.Seq{Match: 3, Offset: 3}
	}
	section, _ := seqs.Encode(l)
	s := whole(2, 3, record, "\x00\x00"+section)
	if b, err := Decode(s, "abc", 510); b != record || err != api.OK {
		t.Fatalf("%x, %d", b, err)
	}
	cut(t, s, "abc", 510)
	section, _ = seqs.Encode(append(l, api.Seq{Match: 3, Offset: 3}))
	refused(t, whole(2, 3, record, "\x00\x00"+section), "abc", 512, api.ErrForm)
	refused(t, whole(2, 3, record+"ab", "\x00\x00"+section), "abc", 512, api.ErrForm)
}

func TestEachByte(t *testing.T) {
	for c := range 256 {
		one := string([]byte{byte(c)})
		for _, n := range []int{1, 2, 127, 128, 512} {
			b := strings.Repeat(one, n)
			if s := encode(t, b, b[:n/2], 3, 3); s != whole(1, 3, b, one) {
				t.Fatalf("%x", s)
			}
			if n < 512 {
				encode(t, b+"\x80", "", 3, 3)
				encode(t, "\x7f"+b, "", 3, 3)
			}
		}
	}
}

func TestEachShortRecordOfFewBytes(t *testing.T) {
	for n := range 8 {
		for i := range 1 << (2 * n) {
			b := make([]byte, n)
			for at := range b {
				b[at] = byte(i >> (2 * at) & 3)
			}
			encode(t, string(b), "\x01\x02\x03\x01\x00", i, 2)
		}
	}
}

func TestEachShortBlock(t *testing.T) {
	decode(t, "", "", 512)
	for i := range 256 {
		c := string([]byte{byte(i)})
		for kind := range 4 {
			k := string([]byte{byte(kind)})
			decode(t, c, "", 512)
			decode(t, k+c, "", 512)
			decode(t, k+"\x00"+c, "", 512)
			decode(t, k+"\x00\x01"+fixed(sum.Of(c))+c, "", 512)
			decode(t, k+c+"\x01"+fixed(sum.Of("a"))+"a", "", 512)
			decode(t, k+"\x01"+c+fixed(sum.Of("a"))+"a", "", 512)
			decode(t, k+"\x01"+c+fixed(sum.Of("aa"))+"aa", "", 512)
			for j := range 256 {
				decode(t, k+"\x01\x02"+fixed(sum.Of("aa"))+c+string([]byte{byte(j)}), "a", 512)
				decode(t, whole(byte(kind), 5, "aa", "\x01"+c+"a"+string([]byte{byte(j)})), "a", 512)
			}
		}
	}
}

func TestAnyRecords(t *testing.T) {
	d := dice(17)
	kinds := [3]int{}
	for range 2500 {
		dict := d.text("", d.next()%257)
		b := d.text(dict, d.next()%513)
		kinds[encode(t, b, dict, d.next()%(1<<30+1), d.next()%6-1)[0]]++
	}
	if kinds[0] < 100 || kinds[1] < 50 || kinds[2] < 500 {
		t.Fatal(kinds)
	}
}

func TestAnyBlocks(t *testing.T) {
	d := dice(71)
	for range 6000 {
		dict := d.text("", d.next()%60)
		b := d.text(dict, d.next()%80)
		decode(t, b, dict, 512)
		decode(t, whole(byte(d.next()%3), 1, b, d.text(b, d.next()%40)), dict, d.next()%100)
		s, _ := Encode(b, dict, d.next()%300, 3)
		other := []byte(s)
		for range 1 + d.next()%3 {
			other[d.next()%len(other)] ^= 1 << (d.next() % 8)
		}
		decode(t, string(other), dict, 512)
		at := d.next() % len(s)
		decode(t, s[:at]+s[min(at+1, len(s)-1):], dict, 512)
		decode(t, s[:at]+string([]byte{byte(d.next())})+s[at:], dict, 512)
	}
}

// TestAnySteps makes blocks of sections of any steps, most of which Encode doesn't choose.
func TestAnySteps(t *testing.T) {
	d := dice(711)
	good := 0
	for range 3000 {
		dict, literals := d.text("", d.next()%40), d.text("", d.next()%40)
		l := make([]api.Seq, d.next()%9)
		for i := range l {
			l[i] = api.Seq{Lits: d.next() % 5, Match: 3 + d.next()%30, Offset: 1 + d.next()%30}
		}
		section, _ := seqs.Encode(l)
		for _, short := range []string{lits.Encode(literals) + section, lits.Raw(literals) + section} {
			b, ok := walk(short, dict)
			s := whole(2, 8, b, short)
			decode(t, s, dict, 512)
			if !ok || len(b) > 512 {
				refused(t, s, dict, 512, api.ErrForm)
				continue
			}
			good++
			if got, err := Decode(s, dict, len(b)); got != b || err != api.OK {
				t.Fatalf("Decode(%x, %x): %x, %d, not %x", s, dict, got, err, b)
			}
			decode(t, whole(2, 8, b+"!", short), dict, 512)
			decode(t, whole(2, 8, b[:max(len(b)-1, 0)], short), dict, 512)
		}
	}
	if good < 1000 {
		t.Fatal(good)
	}
}

func TestOneAnswer(t *testing.T) {
	for range 3 {
		for _, w := range blocks {
			s, _ := Encode(w.record, w.dict, w.epoch, w.level)
			b, _ := Decode(w.block, w.dict, 512)
			again, err := Encode(b, w.dict, w.epoch, w.level)
			if s != w.block || b != w.record || again != w.block || err != api.OK {
				t.Fatalf("%x, %x, %x, %d", s, b, again, err)
			}
		}
	}
}

func FuzzEncode(f *testing.F) {
	for _, w := range blocks {
		f.Add(w.record, w.dict, w.epoch, w.level)
	}
	f.Fuzz(func(t *testing.T, b, dict string, epoch, level int) {
		encode(t, b[:min(len(b), 512)], dict[:min(len(dict), 256)], epoch&(1<<30-1), level)
	})
}

func FuzzDecode(f *testing.F) {
	for _, w := range blocks {
		f.Add(w.block, w.dict, len(w.record))
	}
	for _, w := range others {
		f.Add(w.block, w.dict, 512)
	}
	f.Fuzz(decode)
}
