package snap

import (
	"encoding/binary"
	"fmt"
	"math"
	"slices"
	"strings"
	"testing"
	"unsafe"

	"pemmican/api"
	"pemmican/block"
	"pemmican/cursor"
	"pemmican/litcode"
)

// A dice gives the same numbers in every run.
type dice uint64

func (d *dice) next() int {
	*d = *d*6364136223846793005 + 1442695040888963407
	return int(*d >> 33)
}

// text gives n bytes.
func (d *dice) text(n int) string {
	b := make([]byte, n)
	for i := range b {
		b[i] = byte(d.next())
	}
	return string(b)
}

// record gives one of any of the ways in which records are made short.
func (d *dice) record() string {
	n := d.next() % 30
	if d.next()%5 == 0 {
		n = d.next() % 513
	}
	switch d.next() % 3 {
	case 0:
		return strings.Repeat(d.text(1), n)
	case 1:
		return strings.Repeat("one two three four five ", 22)[d.next()%16:][:n]
	}
	return d.text(n)
}

// records gives up to most of them.
func (d *dice) records(most int) []string {
	var l []string
	for range d.next() % (most + 1) {
		l = append(l, d.record())
	}
	return l
}

// plainSum is the sum of layer 4, written anew from its chapter.
func plainSum(s string) uint64 {
	h, n := uint64(0x6A09E667F3BCC908), uint64(0)
	for _, c := range []byte(s) {
		h = (h ^ uint64(c)) * 0x9E3779B97F4A7C15
		h ^= h >> 29
		n++
	}
	v := (h + n) * 0xBF58476D1CE4E5B9
	return v ^ v>>32
}

// group answers a number in groups.
func group(n int) string {
	return string(binary.AppendUvarint(nil, uint64(n)))
}

// head answers what a block begins with.
func head(kind byte, epoch, size int, sum uint64) string {
	s := string([]byte{kind}) + group(epoch) + group(size)
	return string(binary.LittleEndian.AppendUint64([]byte(s), sum))
}

// plainBlock answers a block of kind 0.
func plainBlock(record string, epoch int) string {
	return head(0, epoch, len(record), plainSum(record)) + record
}

// alikeBlock answers a block of kind 1.
func alikeBlock(c string, n int) string {
	return head(1, 0, n, plainSum(strings.Repeat(c, n))) + c
}

// made answers what tells n, and has these blocks as texts.
func made(n int, blocks ...string) string {
	var s strings.Builder
	s.WriteString(group(n))
	for _, b := range blocks {
		s.WriteString(group(len(b)) + b)
	}
	return s.String()
}

// cutGroup cuts a number in groups off s, byte by byte, without the layers below.
func cutGroup(s string) (uint64, string, bool) {
	v, n := binary.Uvarint([]byte(s))
	if n <= 0 || n > 1 && s[n-1] == 0 {
		return 0, "", false
	}
	return v, s[n:], true
}

// plainParse reads a snapshot whose blocks are read by layer 17.
func plainParse(s string) ([]string, api.Errno) {
	n, s, ok := cutGroup(s)
	if !ok || n > 400 {
		return nil, api.ErrForm
	}
	var l []string
	for range n {
		size, left, ok := cutGroup(s)
		if !ok || size > 600 || size > uint64(len(left)) {
			return nil, api.ErrForm
		}
		b := left[:size]
		s = left[size:]
		record, err := block.Decode(b, "", 512)
		if err != api.OK {
			return nil, err
		}
		if b[1] != 0 {
			return nil, api.ErrDict
		}
		l = append(l, record)
	}
	if s != "" {
		return nil, api.ErrForm
	}
	return l, api.OK
}

// build makes a snapshot, and fails if there is none.
func build(t *testing.T, records []string, level int) string {
	t.Helper()
	s, err := Build(records, level)
	if err != api.OK {
		t.Fatalf("Build of %d records: %d", len(records), err)
	}
	return s
}

// is fails if s isn't a snapshot of these records.
func is(t *testing.T, what, s string, records []string) {
	t.Helper()
	if got, err := Parse(s); err != api.OK || !slices.Equal(got, records) {
		t.Fatalf("%s: Parse(%.40q) = %.40q, %d; not %.40q", what, s, got, err, records)
	}
}

// refused fails if Parse of s answers something, or another error.
func refused(t *testing.T, what, s string, want api.Errno) {
	t.Helper()
	if got, err := Parse(s); len(got) != 0 || err != want {
		t.Fatalf("%s: Parse(%.40q) = %.40q, %d; not %d", what, s, got, err, want)
	}
}

func TestExample(t *testing.T) {
	for _, none := range [][]string{nil, {}} {
		if s, err := Build(none, 1); s != "\x00" || err != api.OK {
			t.Fatalf("%q, %d", s, err)
		}
	}
	is(t, "no records", "\x00", nil)
}

func TestLimits(t *testing.T) {
	if api.MaxLog != 400 || api.MaxRecord != 512 || api.MaxBlock != 600 || api.MaxChunk != 200 {
		t.Fatal(api.MaxLog, api.MaxRecord, api.MaxBlock, api.MaxChunk)
	}
}

func TestSnapshotsWorkedOut(t *testing.T) {
	for _, c := range []struct {
		records []string
		want    string
	}{
		// The sum of "ab" is told in README.md, and in the tests of layer 4.
		{[]string{"ab"}, "\x01\x0d\x00\x00\x02\x3C\x26\x90\x01\xE3\x9F\x20\x1Aab"},
		{[]string{"ab", "ab"}, "\x02\x0d\x00\x00\x02\x3C\x26\x90\x01\xE3\x9F\x20\x1Aab\x0d\x00\x00\x02\x3C\x26\x90\x01\xE3\x9F\x20\x1Aab"},
		{[]string{""}, made(1, plainBlock("", 0))},
		{[]string{"aaaa", "", "xy"}, made(3, alikeBlock("a", 4), plainBlock("", 0), plainBlock("xy", 0))},
		{[]string{strings.Repeat("z", 512)}, made(1, alikeBlock("z", 512))},
	} {
		for level := -1; level < 6; level++ {
			if s := build(t, c.records, level); s != c.want {
				t.Errorf("Build(%.40q, %d) = %.60q, not %.60q", c.records, level, s, c.want)
			}
		}
		is(t, "worked out", c.want, c.records)
	}
}

func TestBlocksAreOfTheLevel(t *testing.T) {
	d := dice(27)
	for range 100 {
		records := append(d.records(9), strings.Repeat("over and over ", 20))
		for _, level := range []int{math.MinInt, -1, 0, 1, 2, 3, 4, math.MaxInt} {
			var blocks []string
			for _, r := range records {
				b, err := block.Encode(r, "", 0, level)
				if err != api.OK {
					t.Fatal(err)
				}
				blocks = append(blocks, b)
			}
			s := build(t, records, level)
			if want := made(len(records), blocks...); s != want {
				t.Fatalf("level %d: %q, not %q", level, s, want)
			}
			is(t, "of a level", s, records)
		}
	}
	records := []string{strings.Repeat("over and over ", 20)}
	if len(build(t, records, 0)) <= len(build(t, records, 1)) {
		t.Error("a level of steps makes nothing short")
	}
}

func TestHowManyRecords(t *testing.T) {
	for _, n := range []int{0, 1, 2, 127, 128, 129, 255, 256, 399, 400} {
		records, blocks := make([]string, n), make([]string, n)
		for i := range records {
			records[i] = fmt.Sprint("record ", i)
			blocks[i] = plainBlock(records[i], 0)
		}
		s := build(t, records, 0)
		if want := made(n, blocks...); s != want {
			t.Fatalf("%d records: %.40q, not %.40q", n, s, want)
		}
		is(t, "so many", s, records)
		refused(t, "one is told that isn't there", made(n+1, blocks...), api.ErrForm)
		if n > 0 {
			refused(t, "one isn't told", made(n-1, blocks...), api.ErrForm)
		}
	}
	for _, n := range []int{401, 402, 512, 1000, 100000} {
		records := make([]string, n)
		if s, err := Build(records, 1); s != "" || err != api.ErrLong {
			t.Fatalf("%d records: %.40q, %d", n, s, err)
		}
		records[n/2] = strings.Repeat("x", 513)
		if s, err := Build(records, 1); s != "" || err != api.ErrLong {
			t.Fatalf("%d records, one too long: %.40q, %d", n, s, err)
		}
		blocks := slices.Repeat([]string{plainBlock("", 0)}, n)
		refused(t, "too many", made(n, blocks...), api.ErrForm)
	}
}

func TestEachLength(t *testing.T) {
	d := dice(512)
	for n := range 513 {
		records := []string{d.text(n), strings.Repeat("a", n), strings.Repeat("this comes again ", 40)[:n]}
		for level := range 4 {
			is(t, "of that length", build(t, records, level), records)
		}
	}
	for _, n := range []int{513, 514, 600, 1024, 65536, 1 << 20} {
		for place := range 4 {
			records := []string{"one", "", "three", "four"}
			records[place] = strings.Repeat("x", n)
			if s, err := Build(records, 1); s != "" || err != api.ErrLong {
				t.Fatalf("%d bytes: %.40q, %d", n, s, err)
			}
		}
	}
}

func TestTheGreatestSnapshot(t *testing.T) {
	d := dice(400)
	records := make([]string, 400)
	for i := range records {
		records[i] = d.text(512)
	}
	s := build(t, records, 3)
	// A block has 16 bytes more than its record at most, and so there is room for all in a Joiner.
	if len(s) != 2+400*(2+12+512) {
		t.Fatal(len(s))
	}
	is(t, "the greatest", s, records)
	is(t, "the greatest, by pieces", joined(t, s), records)
}

func TestBuildChangesNothing(t *testing.T) {
	d := dice(1)
	records := d.records(40)
	ahead := slices.Clone(records)
	first := build(t, records, 2)
	if !slices.Equal(records, ahead) {
		t.Fatal("the records are changed")
	}
	records = append(records, "more")
	build(t, records, 2)
	if again := build(t, ahead, 2); again != first {
		t.Fatal("another answer")
	}
}

func TestNumberOfRecords(t *testing.T) {
	refused(t, "nothing", "", api.ErrForm)
	refused(t, "no last group", "\x80", api.ErrForm)
	refused(t, "no last group", "\xff\xff", api.ErrForm)
	refused(t, "nought in two groups", "\x80\x00", api.ErrForm)
	refused(t, "a last group of nought", "\x81\x00"+made(1, plainBlock("a", 0))[1:], api.ErrForm)
	refused(t, "400 in three groups", "\x90\x83\x00", api.ErrForm)
	refused(t, "ten groups, too great", strings.Repeat("\xff", 9)+"\x02", api.ErrForm)
	refused(t, "eleven groups", strings.Repeat("\xff", 10)+"\x01", api.ErrForm)
	for _, n := range []int{401, 402, 1 << 16, 1 << 20, math.MaxInt32, 1 << 32, 1<<32 + 1, math.MaxInt} {
		refused(t, "too many", group(n), api.ErrForm)
		refused(t, "too many, one is there", made(n, plainBlock("a", 0)), api.ErrForm)
	}
	refused(t, "2^64 - 1", strings.Repeat("\xff", 9)+"\x01", api.ErrForm)
	refused(t, "2^63", strings.Repeat("\x80", 9)+"\x01", api.ErrForm)
	for n := 1; n <= 400; n++ {
		refused(t, "none is there", group(n), api.ErrForm)
	}
}

func TestTexts(t *testing.T) {
	b := plainBlock("ab", 0)
	is(t, "a text", "\x01\x0d"+b, []string{"ab"})
	refused(t, "a byte less", "\x01\x0d"+b[:12], api.ErrForm)
	refused(t, "a byte behind", "\x01\x0d"+b+"x", api.ErrForm)
	refused(t, "a text of a byte less", "\x01\x0c"+b, api.ErrForm)
	refused(t, "a text of a byte more", "\x01\x0e"+b, api.ErrForm)
	refused(t, "a text of a byte more, which is there", "\x01\x0e"+b+"x", api.ErrForm)
	refused(t, "a text of none", "\x01\x00"+b, api.ErrForm)
	refused(t, "a text of none", "\x01\x00", api.ErrForm)
	refused(t, "in two groups", "\x01\x8d\x00"+b, api.ErrForm)
	refused(t, "no last group", "\x01\x8d", api.ErrForm)
	refused(t, "no number", "\x01", api.ErrForm)
	refused(t, "2^64 - 1", "\x01"+strings.Repeat("\xff", 9)+"\x01"+b, api.ErrForm)
	refused(t, "2^63", "\x01"+strings.Repeat("\x80", 9)+"\x01"+b, api.ErrForm)
	for _, n := range []int{601, 1 << 16, 1 << 20, math.MaxInt32, 1<<32 + 13, math.MaxInt} {
		refused(t, "too long", "\x01"+group(n)+b, api.ErrForm)
	}
}

func TestTorn(t *testing.T) {
	records := []string{"", "aaaa", "no byte comes twice", strings.Repeat("again and ", 30), "", strings.Repeat("z", 512)}
	whole := build(t, records, 2)
	for i := range len(whole) {
		refused(t, "torn", whole[:i], api.ErrForm)
	}
	for _, behind := range []string{"\x00", "x", whole, whole[1:]} {
		refused(t, "something behind", whole+behind, api.ErrForm)
		refused(t, "something behind none", "\x00"+behind, api.ErrForm)
	}
}

// odd makes a block of a record of n bytes that is longer than that of Encode: all bytes have codes of 8 bits.
func odd(t *testing.T, n int) (string, string) {
	t.Helper()
	d := dice(n)
	record := d.text(n)
	lengths := slices.Repeat([]int{8}, 256)
	table, there := litcode.Table(lengths)
	code, ok := litcode.Encode(lengths, []byte(record))
	if !there || !ok || len(code) != n {
		t.Fatal("no codes of 8 bits")
	}
	literals := "\x02" + group(n) + table + group(n) + string(code)
	return head(2, 0, n, plainSum(record)) + literals + "\x00", record
}

func TestLongTexts(t *testing.T) {
	for n := 128; n <= 512; n++ {
		b, record := odd(t, n)
		if got, err := block.Decode(b, "", 512); len(b) != n+147 || got != record || err != api.OK {
			t.Fatalf("a block of %d bytes: %d", len(b), err)
		}
		if len(b) > 600 {
			refused(t, "a block of more than 600 bytes", made(1, b), api.ErrForm)
			refused(t, "a block of more than 600 bytes", made(2, plainBlock("a", 0), b), api.ErrForm)
			continue
		}
		is(t, "a long block", made(1, b), []string{record})
		is(t, "long blocks", made(3, b, plainBlock("a", 0), b), []string{record, "a", record})
	}
	// Up to 600 bytes a block is looked into, and so it has an error of its own.
	record := strings.Repeat("ab", 294)
	refused(t, "a record of 588 bytes", made(1, plainBlock(record, 0)), api.ErrLong)
	refused(t, "a record of 589 bytes", made(1, plainBlock(record+"c", 0)), api.ErrForm)
}

func TestErrorsOfBlocks(t *testing.T) {
	right := plainBlock("right", 0)
	long := strings.Repeat("ab", 257)
	for _, c := range []struct {
		what, block string
		err         api.Errno
	}{
		{"no bytes", "", api.ErrForm},
		{"another kind", "\x03" + right[1:], api.ErrForm},
		{"no sum", right[:10], api.ErrForm},
		{"an epoch above the most", plainBlock("right", 1<<30+1), api.ErrForm},
		{"too much behind", right + "x", api.ErrForm},
		{"too little behind", right[:len(right)-1], api.ErrForm},
		{"another sum", head(0, 0, 5, 7) + "right", api.ErrSum},
		{"another record", right[:len(right)-1] + "x", api.ErrSum},
		{"513 bytes", plainBlock(long[:513], 0), api.ErrLong},
		{"514 bytes", plainBlock(long, 0), api.ErrLong},
		{"513 bytes in one", alikeBlock("a", 513), api.ErrLong},
		{"a million bytes in one", alikeBlock("a", 1000000), api.ErrLong},
		{"2^40 bytes that aren't there", head(0, 0, 1<<40, 0), api.ErrLong},
		{"more than 2^40 bytes", head(0, 0, 1<<40+1, 0), api.ErrForm},
		{"epoch 1", plainBlock("right", 1), api.ErrDict},
		{"epoch 127", plainBlock("right", 127), api.ErrDict},
		{"epoch 128", plainBlock("right", 128), api.ErrDict},
		{"the greatest epoch", plainBlock("right", 1<<30), api.ErrDict},
		{"an epoch, and no bytes", plainBlock("", 8), api.ErrDict},
		{"an epoch, and another sum", head(0, 1, 5, 7) + "right", api.ErrSum},
		{"an epoch, and too much behind", plainBlock("right", 1) + "x", api.ErrForm},
		{"an epoch, and 513 bytes", plainBlock(long[:513], 1), api.ErrLong},
	} {
		for place := range 4 {
			blocks := []string{right, alikeBlock("a", 9), plainBlock("", 0), right}
			blocks[place] = c.block
			refused(t, c.what, made(4, blocks...), c.err)
			refused(t, c.what+", something behind", made(4, blocks...)+"x", c.err)
			refused(t, c.what+", fewer told", made(place+1, blocks...), c.err)
			refused(t, c.what+", fewer there", made(400, blocks[:place+1]...), c.err)
			if place > 0 {
				refused(t, c.what+", not told", made(place, blocks...), api.ErrForm)
			}
		}
	}
}

func TestTheFirstRecordsError(t *testing.T) {
	sum, dict, long := head(0, 0, 1, 7)+"a", plainBlock("a", 2), plainBlock(strings.Repeat("ab", 260), 0)
	for _, c := range []struct {
		blocks []string
		err    api.Errno
	}{
		{[]string{sum, dict, long, ""}, api.ErrSum},
		{[]string{dict, sum, long, ""}, api.ErrDict},
		{[]string{long, "", sum, dict}, api.ErrLong},
		{[]string{"", sum, dict, long}, api.ErrForm},
	} {
		refused(t, "several errors", made(4, c.blocks...), c.err)
		refused(t, "several errors, and one is right", made(5, append([]string{plainBlock("a", 0)}, c.blocks...)...), c.err)
		refused(t, "several errors, and too many told", made(401, c.blocks...), api.ErrForm)
		refused(t, "several errors, and a long text behind", made(4, c.blocks[0])+group(601), c.err)
	}
}

func TestBlocksByADictionary(t *testing.T) {
	dict := "what the dictionary has, and a record has too"
	record := "here is what the dictionary has, and a record has too"
	for _, epoch := range []int{0, 1, 9} {
		b, err := block.Encode(record, dict, epoch, 3)
		if err != api.OK || b[0] != 2 {
			t.Fatal(b, err)
		}
		_, want := block.Decode(b, "", 512)
		if want == api.OK {
			t.Fatal("the dictionary wasn't used")
		}
		refused(t, "by a dictionary", made(1, b), want)
	}
}

func TestEachBitCounts(t *testing.T) {
	records := []string{"", "aaaa", "abc", strings.Repeat("again and ", 12)}
	whole := build(t, records, 2)
	for i := range len(whole) {
		for bit := range 8 {
			b := []byte(whole)
			b[i] ^= 1 << bit
			same(t, string(b))
			if got, err := Parse(string(b)); err == api.OK && !slices.Equal(got, records) {
				t.Fatalf("bit %d of byte %d: %q", bit, i, got)
			}
		}
	}
}

// same holds Parse of s against the plain one.
func same(t *testing.T, s string) {
	t.Helper()
	want, wantErr := plainParse(s)
	if got, err := Parse(s); err != wantErr || !slices.Equal(got, want) {
		t.Fatalf("Parse(%.80q) = %.40q, %d; not %.40q, %d", s, got, err, want, wantErr)
	}
}

func TestAnyBytes(t *testing.T) {
	d := dice(2727)
	for range 20000 {
		same(t, d.text(d.next()%40))
		same(t, string([]byte{byte(d.next() % 4)})+"\x0d"+d.text(d.next()%40))
	}
	for range 20000 {
		blocks := make([]string, d.next()%6)
		for i := range blocks {
			b, _ := block.Encode(d.record(), "", max(d.next()%40-38, 0), d.next()%4)
			blocks[i] = b
		}
		b := []byte(made(max(len(blocks)+d.next()%12/10-d.next()%12/10, 0), blocks...))
		if d.next()%3 == 0 {
			b[d.next()%len(b)] ^= 1 << (d.next() % 8)
		}
		if d.next()%5 == 0 {
			b = b[:d.next()%(len(b)+1)]
		}
		same(t, string(b))
	}
}

func FuzzParse(f *testing.F) {
	f.Add("\x00")
	f.Add(made(2, plainBlock("ab", 0), alikeBlock("a", 9)))
	f.Add(made(1, plainBlock("ab", 1)))
	f.Add(made(401, plainBlock("ab", 0)))
	s, _ := Build([]string{strings.Repeat("again and ", 12), ""}, 3)
	f.Add(s)
	f.Fuzz(same)
}

func TestRecordsThereAndBack(t *testing.T) {
	d := dice(2)
	for range 400 {
		records := d.records(40)
		for level := -1; level < 5; level++ {
			s := build(t, records, level)
			is(t, "there and back", s, records)
			is(t, "there and back by pieces", joined(t, s), records)
		}
	}
}

// share tells whether one of both texts is a piece of the other's memory.
func share(a, b string) bool {
	if a == "" || b == "" {
		return false
	}
	at := uintptr(unsafe.Pointer(unsafe.StringData(a)))
	from := uintptr(unsafe.Pointer(unsafe.StringData(b)))
	return at < from+uintptr(len(b)) && from < at+uintptr(len(a))
}

func TestAnswersAreNewMemory(t *testing.T) {
	records := []string{"plain", "aaaa", "b", strings.Repeat("again and ", 12)}
	s := build(t, records, 1)
	got, _ := Parse(s)
	again, _ := Parse(s)
	for i, r := range got {
		if share(r, s) || share(r, again[i]) {
			t.Errorf("record %d is a piece of something else", i)
		}
		got[i] = "x"
	}
	if !slices.Equal(again, records) {
		t.Error("both answers are one list")
	}
	if share(Piece(s, 0), s) || share(Piece(s, len(s)-3), s) {
		t.Error("a piece is one of what was handed in")
	}
	for _, r := range records {
		if one := build(t, []string{r}, 0); share(one, r) {
			t.Error("a snapshot has its record's memory")
		}
	}
}

func TestSnapshotsAreReadByTheLayersBelow(t *testing.T) {
	d := dice(3)
	for range 300 {
		records := d.records(20)
		r := cursor.New(build(t, records, 3))
		if n := r.Int(400); n != len(records) {
			t.Fatalf("%d records, not %d", n, len(records))
		}
		for i := range records {
			b := r.Text(600)
			epoch, _ := block.Epoch(b)
			got, err := block.Decode(b, "", 512)
			if err != api.OK || got != records[i] || epoch != 0 {
				t.Fatalf("%q, %d, epoch %d", got, err, epoch)
			}
		}
		if !r.Done() {
			t.Fatal("something is behind")
		}
	}
}
