package train

import (
	"container/heap"
	"math"
	"slices"
	"strings"
	"testing"
	"unsafe"

	"pemmican/api"
)

// A dice gives the same numbers in every run.
type dice uint64

func (d *dice) next() int {
	*d = *d*6364136223846793005 + 1442695040888963407
	return int(*d >> 33)
}

// The plain way: everything is looked through again for each answer, and nothing is reckoned ahead.

func plainRecords(records []string) []string {
	var l []string
	for i, s := range records {
		if i < 64 && len(s) > 512 {
			s = s[:512]
		}
		if i < 64 {
			l = append(l, s)
		}
	}
	return l
}

// plainGrams answers the grams of s, each one once, the first one first.
func plainGrams(s string) []string {
	var l []string
	for i := 0; i+6 <= len(s); i++ {
		if !slices.Contains(l, s[i:i+6]) {
			l = append(l, s[i:i+6])
		}
	}
	return l
}

// plainWorth tells what p is worth by records that count, taken being the texts whose grams are taken.
func plainWorth(records []string, p string, taken []string) int {
	sum := 0
	for _, g := range plainGrams(p) {
		n := 0
		for _, s := range records {
			if strings.Contains(s, g) {
				n++
			}
		}
		gone := slices.ContainsFunc(taken, func(s string) bool { return strings.Contains(s, g) })
		if n > 0 && !gone {
			sum += n - 1
		}
	}
	return sum
}

// plainPieces answers all pieces of records that count, in their order.
func plainPieces(records []string) []string {
	var l []string
	for _, s := range records {
		if len(s) >= 6 && len(s) <= 15 {
			l = append(l, s)
		}
		for i := 0; i+16 <= len(s); i++ {
			l = append(l, s[i:i+16])
		}
	}
	return l
}

// plainChosen answers what is chosen, by looking through all pieces each time.
func plainChosen(records []string, size int) []string {
	records = plainRecords(records)
	size = min(max(size, 0), 256)
	all := plainPieces(records)
	var chosen []string
	for {
		best, most := "", 0
		for _, p := range all {
			if n := plainWorth(records, p, chosen); n > most {
				best, most = p, n
			}
		}
		if most == 0 || len(strings.Join(chosen, "")+best) > size {
			return chosen
		}
		chosen = append(chosen, best)
	}
}

// same fails if records don't give what the plain way gives.
func same(t *testing.T, records []string, size int) {
	t.Helper()
	chosen(t, records, size, plainChosen(records, size)...)
	for _, s := range records {
		for _, p := range []string{s, s[:len(s)/2], s + s, s[len(s)/3:] + "x" + s} {
			if got, want := Worth(records, p), plainWorth(plainRecords(records), p, nil); got != want {
				t.Fatalf("Worth of %q by %q: %d, not %d", p, records, got, want)
			}
		}
	}
}

// chosen fails if just these pieces aren't chosen, in this order.
func chosen(t *testing.T, records []string, size int, want ...string) {
	t.Helper()
	if got := Pieces(records, size); !slices.Equal(got, want) {
		t.Fatalf("Pieces of %.300q, %d: %q, not %q", records, size, got, want)
	}
	all := ""
	for _, p := range want {
		all = p + all
	}
	if got := Train(records, size); got != all {
		t.Fatalf("Train of %.300q, %d: %q, not %q", records, size, got, all)
	}
}

// worth fails if p isn't worth so much.
func worth(t *testing.T, records []string, p string, want int) {
	t.Helper()
	if got := Worth(records, p); got != want {
		t.Fatalf("Worth of %.100q by %.300q: %d, not %d", p, records, got, want)
	}
}

// times answers s so often.
func times(n int, s string) []string {
	return slices.Repeat([]string{s}, n)
}

func TestExample(t *testing.T) {
	two := []string{"hello world", "hello world"}
	chosen(t, two, 256, "hello world")
	worth(t, two, "hello world", 6)
}

func TestLimits(t *testing.T) {
	if api.MaxRing != 64 || api.MaxRecord != 512 || api.MaxDict != 256 {
		t.Fatal(api.MaxRing, api.MaxRecord, api.MaxDict)
	}
}

func TestNothingIsWorthAnything(t *testing.T) {
	for _, records := range [][]string{
		nil, {}, {""}, {"", ""}, {"a", "a"}, {"abcde", "abcde", "abcde"},
		{"hello world"},
		{"hello world", "hello"},
		{"hello world", "ello "},
		{"hello world", "bye, all"},
		{"aaaaaaaaaaaaaaaaaaaaaaaaaaaaaaaa", "bbbbbbbbbbbb"}, // what comes again is in one record alone
		{"abcdefabcdefabcdefabcdefabcdef"},
	} {
		for _, size := range []int{math.MinInt, -1, 0, 1, 16, 256, math.MaxInt} {
			chosen(t, records, size)
		}
		for _, s := range records {
			worth(t, records, s, 0)
		}
		worth(t, records, "", 0)
		worth(t, records, "other bytes", 0)
	}
}

func TestWeights(t *testing.T) {
	records := []string{"abcdefg", "xbcdefgh", "abcdef", "abcdef--abcdef", "q"}
	// abcdef is in three records, bcdefg in two, all others in one.
	for _, c := range []struct {
		piece string
		n     int
	}{
		{"", 0}, {"a", 0}, {"abcde", 0}, {"abcdef", 2}, {"bcdefg", 1}, {"xbcdef", 0}, {"cdefgh", 0},
		{"abcdefg", 3}, {"xbcdefg", 1}, {"bcdefgh", 1}, {"abcdefabcdef", 2}, {"abcdef--abcdef", 2},
		{"bcdefgabcdef", 3}, {"abcdefgabcdefg", 3}, {"ABCDEF", 0}, {"no, nothing of it", 0},
		{strings.Repeat("abcdefg", 1000), 3}, {strings.Repeat("no ", 1000) + "abcdef", 2},
	} {
		worth(t, records, c.piece, c.n)
	}
	chosen(t, records, 256, "abcdefg")
}

func TestOfTheSameRecords(t *testing.T) {
	for n := range 70 {
		records := times(n, "abcdefg")
		less := max(min(n, 64)-1, 0)
		worth(t, records, "abcdefg", 2*less)
		worth(t, records, "bcdefg", less)
		if less > 0 {
			chosen(t, records, 256, "abcdefg")
		} else {
			chosen(t, records, 256)
		}
	}
}

func TestHowLongPiecesAre(t *testing.T) {
	text := "abcdefghijklmnopqrstuvwxyz"
	for n := range 6 {
		chosen(t, times(2, text[:n]), 256)
	}
	for n := 6; n <= 16; n++ {
		chosen(t, times(2, text[:n]), 256, text[:n])
		worth(t, times(2, text[:n]), text[:n], n-5)
	}
	// Of longer ones what is chosen next has as many grams that aren't taken as may be.
	chosen(t, times(2, text[:17]), 256, text[:16], text[1:17])
	chosen(t, times(2, text[:18]), 256, text[:16], text[2:18])
	chosen(t, times(2, text[:26]), 256, text[:16], text[10:26])
	text += "0123456"
	chosen(t, times(2, text), 256, text[:16], text[11:27], text[17:])
}

func TestThePieceIsOfTheRecordThatHasIt(t *testing.T) {
	// The record of 16 bytes and more has pieces of 16 bytes alone; the shorter one is all of it.
	chosen(t, []string{"abcdefghijklmnopqrstuvwxyz", "--jklmnop--"}, 256, "abcdefghijklmnop")
	chosen(t, []string{"--jklmnop--", "abcdefghijklmnopqrstuvwxyz"}, 256, "--jklmnop--")
	chosen(t, []string{"jklmnop", "abcdefghijklmnopqrstuvwxyz"}, 256, "jklmnop")
}

func TestTheFirstOfSeveral(t *testing.T) {
	// Of two that are worth as much that of the first record.
	chosen(t, []string{"abcdef", "uvwxyz", "abcdef", "uvwxyz"}, 256, "abcdef", "uvwxyz")
	chosen(t, []string{"uvwxyz", "abcdef", "abcdef", "uvwxyz"}, 256, "uvwxyz", "abcdef")
	chosen(t, []string{"uvwxyz", "abcdef", "uvwxyz", "abcdef"}, 6, "uvwxyz")
	chosen(t, []string{"1abcdef", "abcdef2", "3abcdef"}, 256, "1abcdef")
	chosen(t, []string{"abcdef2", "1abcdef", "3abcdef"}, 256, "abcdef2")
	// Of one record that of the first place.
	chosen(t, []string{"0123456789abcdef0123", "abcdef"}, 256, "0123456789abcdef")
	chosen(t, []string{"0123456789abcdefghij", "bcdefg"}, 256, "123456789abcdefg")
	// The first record's last place comes ahead of the second one's first place.
	chosen(t, []string{"0123456789abcdefghij", "efghij"}, 256, "456789abcdefghij")
	chosen(t, []string{"0123456789abcdefghij", "efghij0123", "efghij"}, 256, "456789abcdefghij")
	chosen(t, []string{"efghij", "0123456789abcdefghij"}, 256, "efghij")
	// What is worth more comes first wherever it is.
	chosen(t, []string{"uvwxyz", "abcdef", "uvwxyz", "abcdef", "abcdef"}, 256, "abcdef", "uvwxyz")
	chosen(t, []string{"0123456789abcdefghij", "efghij", "efghij012345"}, 256, "efghij012345")
}

func TestWhatIsTakenIsWorthNothing(t *testing.T) {
	// The third one has all grams of the others.
	records := []string{"abcdefg", "fghijkl", "abcdefghijkl", "bcdefghijk"}
	worth(t, records, "abcdefg", 3)
	worth(t, records, "fghijkl", 3)
	worth(t, records, "abcdefghijkl", 9)
	chosen(t, records, 256, "abcdefghijkl")
	// The second one loses so much that the third comes ahead of it.
	records = []string{"0abcdefghi", "9abcdefgh", "abcdefghi", "uvwxyz01", "uvwxyz01"}
	worth(t, records, "0abcdefghi", 7)
	worth(t, records, "9abcdefgh", 6)
	worth(t, records, "uvwxyz01", 3)
	chosen(t, records, 256, "0abcdefghi", "uvwxyz01")
	// It loses some, and still comes ahead.
	records = []string{"abcdefgh", "cdefghijklm", "abcdefgh", "cdefghijklm", "uvwxyz", "uvwxyz", "abcdefgh"}
	worth(t, records, "abcdefgh", 2+2+4)
	worth(t, records, "cdefghijklm", 4+5)
	chosen(t, records, 256, "cdefghijklm", "abcdefgh", "uvwxyz")
}

func TestAGramOfAPieceCountsOnce(t *testing.T) {
	worth(t, times(2, "aaaaaaa"), "aaaaaaa", 1)
	worth(t, times(3, strings.Repeat("a", 40)), strings.Repeat("a", 16), 2)
	chosen(t, times(2, strings.Repeat("a", 40)), 256, strings.Repeat("a", 16))
	// Six grams of the first sort, once each, are less than eleven.
	period := strings.Repeat("abcdef", 4)
	plain := "0123456789ABCDEF"
	chosen(t, []string{period, plain, period, plain}, 256, plain, period[:16])
	worth(t, times(2, period), period, 6)
}

func TestSizes(t *testing.T) {
	a, b, c := "0123456789ABCDEF", "qrstuvwxyzQRSTUV", "mnopqr"
	records := slices.Concat(times(3, a), times(2, b), times(2, c))
	for _, x := range []struct {
		size int
		want []string
	}{
		{math.MinInt, nil}, {math.MinInt32, nil}, {-16, nil}, {-1, nil}, {0, nil}, {1, nil},
		{6, nil}, // the one of 6 bytes would go, but another one comes first
		{15, nil},
		{16, []string{a}}, {17, []string{a}},
		{22, []string{a}}, // likewise
		{31, []string{a}},
		{32, []string{a, b}}, {33, []string{a, b}}, {37, []string{a, b}},
		{38, []string{a, b, c}}, {39, []string{a, b, c}}, {256, []string{a, b, c}}, {257, []string{a, b, c}}, {math.MaxInt, []string{a, b, c}},
	} {
		chosen(t, records, x.size, x.want...)
	}
	if d := Train(records, 256); d != c+b+a {
		t.Fatal(d)
	}
}

func TestTheGreatestSize(t *testing.T) {
	// 17 pieces of 16 bytes, each worth as much: 16 of them go.
	var records []string
	for i := range 17 {
		records = append(records, times(2, text16(i))...)
	}
	var want []string
	for i := range 16 {
		want = append(want, text16(i))
	}
	for _, size := range []int{256, 257, 271, 272, 1 << 20, 1<<32 + 5, math.MaxInt} {
		chosen(t, records, size, want...)
		if n := len(Train(records, size)); n != 256 {
			t.Fatal(n)
		}
	}
	chosen(t, records, 255, want[:15]...)
	chosen(t, records, 240, want[:15]...)
	chosen(t, records, 239, want[:14]...)
}

// text16 answers one of many texts of 16 bytes, no two of which have a gram in common.
func text16(i int) string {
	var b []byte
	for k := range 16 {
		b = append(b, byte(16*(i%16)+k))
		if k%4 == 0 {
			b[k] = byte(i / 16)
		}
	}
	return string(b)
}

func TestOfRecordsTheFirst64(t *testing.T) {
	var records []string
	for i := range 63 {
		records = append(records, text16(i % 4)[:5])
	}
	records[0] = "hello world"
	at64 := append(slices.Clone(records), "hello world")
	chosen(t, at64, 256, "hello world")
	worth(t, at64, "hello world", 6)
	past := append(slices.Clone(records), "nothing", "hello world", "hello world")
	chosen(t, past, 256)
	worth(t, past, "hello world", 0)
	more := slices.Concat(times(64, "abcdefg"), times(500, "uvwxyz0123456789"))
	chosen(t, more, 256, "abcdefg")
	worth(t, more, "abcdefg", 126)
	worth(t, more, "uvwxyz0123456789", 0)
}

func TestOfARecordTheFirst512Bytes(t *testing.T) {
	junk := func(n int) string { return strings.Repeat("-", n) }
	for _, c := range []struct{ ahead, n int }{{0, 1}, {505, 1}, {506, 1}, {507, 0}, {511, 0}, {512, 0}, {513, 0}, {2000, 0}} {
		records := []string{"abcdef", junk(c.ahead) + "abcdef" + junk(20)}
		worth(t, records, "abcdef", c.n)
		chosen(t, records, 256, times(c.n, "abcdef")...)
		// And the other way round the piece is one of the long record.
		slices.Reverse(records)
		worth(t, records, "abcdef", c.n)
		want := records[0][min(max(c.ahead-10, 0), 496):]
		chosen(t, records, 256, times(c.n, want[:16])...)
	}
	// Records that are unlike behind 512 bytes alone are the same.
	long := strings.Repeat("a", 512)
	chosen(t, []string{long + "b", long + "c"}, 256, long[:16])
	worth(t, []string{long + "b", long + "b"}, "aaaaab", 0)
	worth(t, []string{long[1:] + "b", long[1:] + "b"}, "aaaaab", 1)
	// A piece that is asked for isn't a record, and isn't cut.
	worth(t, []string{"abcdef", "abcdef"}, junk(5000)+"abcdef", 1)
}

func TestAnyBytes(t *testing.T) {
	s := "\x00\xff\x80é\n\x00\xc3"
	chosen(t, times(2, s), 256, s)
	worth(t, times(2, s), s, len(s)-5)
	worth(t, times(2, "\x00\x00\x00\x00\x00\x00"), "\x00\x00\x00\x00\x00\x00\x00", 1)
	worth(t, times(2, "\xff\xff\xff\xff\xff\xff"), "\ufffd\ufffd", 0)
}

func TestNothingHandedInIsChangedOrKept(t *testing.T) {
	raw := []byte("ahead of it hello world and behind it")
	records := []string{string(raw), string(raw), strings.Repeat("x", 600), "hello"}
	for range 70 {
		records = append(records, "hello world")
	}
	was := slices.Clone(records)
	one, two := Pieces(records, 256), Pieces(records, 256)
	dict := Train(records, 256)
	Worth(records, records[0])
	if !slices.Equal(records, was) {
		t.Fatal("records were changed")
	}
	for _, got := range append(slices.Clone(one), dict) {
		at := uintptr(unsafe.Pointer(unsafe.StringData(got)))
		for _, s := range records {
			from := uintptr(unsafe.Pointer(unsafe.StringData(s)))
			if at >= from && at < from+uintptr(len(s)) {
				t.Fatal("a record's memory is in the answer")
			}
		}
	}
	want := slices.Clone(two)
	clear(one)
	one = append(one, "y")
	if len(want) < 2 || !slices.Equal(two, want) {
		t.Fatal(one, two)
	}
	clear(records)
	if !slices.Equal(two, want) {
		t.Fatal(two)
	}
	// A list's bytes past its end aren't written.
	short := was[:2:70]
	Pieces(short, 256)
	if was[2] != strings.Repeat("x", 600) {
		t.Fatal("past the end")
	}
}

func TestOneAnswer(t *testing.T) {
	d := dice(19)
	records := some(&d, 30, 60, 3)
	dict := Train(records, 256)
	for range 50 {
		if got := Train(records, 256); got != dict {
			t.Fatal(got, dict)
		}
	}
}

// some answers up to n records of up to size bytes, of so many letters, pieces of earlier ones among them.
func some(d *dice, n, size, letters int) []string {
	records := make([]string, d.next()%(n+1))
	for i := range records {
		var b []byte
		for want := d.next() % (size + 1); len(b) < want; {
			if i > 0 && d.next()%4 == 0 {
				s := records[d.next()%i]
				from := d.next() % (len(s) + 1)
				b = append(b, s[from:from+d.next()%(len(s)-from+1)]...)
				continue
			}
			b = append(b, byte('a'+d.next()%letters))
		}
		records[i] = string(b)
	}
	return records
}

func TestAllShortRecords(t *testing.T) {
	// All pairs of records of 6 up to 8 bytes, of two letters.
	var all []string
	for n := 6; n <= 8; n++ {
		for bits := range 1 << n {
			b := make([]byte, n)
			for i := range b {
				b[i] = 'a' + byte(bits>>i&1)
			}
			all = append(all, string(b))
		}
	}
	for i, s := range all {
		for _, r := range all[i%7:] {
			if i%3 == 0 || strings.Contains(s, r[:6]) {
				same(t, []string{s, r}, 256)
			}
		}
	}
}

func TestAnyRecords(t *testing.T) {
	d := dice(1)
	for i := range 1500 {
		records := some(&d, 2+i%12, 7+i%50, 1+i%5)
		same(t, records, d.next()%270-4)
	}
	for i := range 12 {
		same(t, some(&d, 75, 60, 2+i), 256)
		same(t, some(&d, 5, 700, 2+i), 256)
	}
}

func TestTheMostThatCounts(t *testing.T) {
	d := dice(7)
	for _, records := range [][]string{
		times(70, strings.Repeat("a", 600)),
		times(70, strings.Repeat("abcdefghijk", 60)),
		append(some(&d, 60, 600, 2), some(&d, 60, 600, 200)...),
	} {
		l := Pieces(records, 256)
		if n := len(strings.Join(l, "")); n > 256 {
			t.Fatal(n)
		}
	}
	// No two of these records have a gram but those that come again.
	var long []byte
	for i := range 600 {
		long = append(long, byte(i), byte(i>>4))
	}
	chosen(t, times(64, string(long)), 31, string(long[:16]))
	long = long[:512]
	worth(t, times(64, string(long)), string(long), 63*len(plainGrams(string(long))))
}

func TestNothingButPiecesWaits(t *testing.T) {
	h := &pieces{{text: "abcdef", worth: 1}}
	heap.Push(h, "no piece")
	if h.Len() != 1 {
		t.Fatal(h)
	}
}

func FuzzTrain(f *testing.F) {
	f.Add("hello world|hello world", 256)
	f.Add("abcdefg|fghijkl|abcdefghijkl|bcdefghijk", 20)
	f.Add("0123456789abcdefghij|efghij|efghij012345", -1)
	f.Fuzz(func(t *testing.T, text string, size int) {
		records := strings.Split(text[:min(len(text), 400)], "|")
		same(t, records, size)
	})
}
