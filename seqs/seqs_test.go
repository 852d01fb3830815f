package seqs

import (
	"encoding/binary"
	"math"
	"slices"
	"strconv"
	"strings"
	"testing"

	"pemmican/api"
	"pemmican/cursor"
	"pemmican/parse"
)

// greatest is the step that has the greatest numbers.
var greatest = api.Seq{Lits: 65535, Match: 65538, Offset: 65533}

// sections are steps, and sections of them, worked out beside the program.
var sections = []struct {
	l       []api.Seq
	section string
}{
	{nil, "\x00"},
	{steps(0, 3, 1), "\x01\x00\x00\x00\x00\x00\x00\x00"},
	{steps(0, 3, 2), "\x01\x00\x00\x00\x00\x00\x01\x00"},
	{steps(0, 3, 4), "\x01\x00\x00\x00\x00\x00\x02\x00"},
	{steps(3, 6, 3), "\x01\x00\x03\x00\x03\x00\x05\x00"},
	{steps(15, 18, 13), "\x01\x00\x0f\x00\x0f\x00\x0f\x00"},
	// Bits behind a code.
	{steps(20, 3, 1), "\x01\x00\x10\x00\x00\x00\x00\x01\x04"},
	{steps(16, 19, 14), "\x01\x00\x10\x00\x10\x00\x10\x02\x00\x00"},
	{steps(17, 21, 18), "\x01\x00\x10\x00\x10\x00\x10\x02\x21\x04"},
	{[]api.Seq{greatest}, "\x01\x00\x1b\x00\x1b\x00\x1b\x06\xff\xff\xff\xff\xff\x1f"},
	// Offsets that are recent.
	{steps(0, 3, 3, 0, 3, 3), "\x02\x01\x00\x01\x00\x00\x05\x00\x00"},
	{steps(1, 3, 2, 2, 4, 4), "\x02\x00\x01\x02\x00\x00\x01\x00\x01\x02\x00"},
	{steps(0, 3, 4, 0, 3, 9, 0, 3, 4, 0, 3, 2), "\x04\x01\x00\x01\x00\x00\x02\x0b\x01\x04\x00"},
	// A share of 29 and 3, and three shares.
	{slices.Repeat(steps(5, 10, 9), 10), "\x0a\x01\x05\x01\x07\x02\x04\xe8\x00\x00\x60\x02\x2a\x03\x00"},
	{few(40), "\x28\x02\x03\x60\x94\x02\x09\xd4\xe1\x23\x84\x10\x42\x08\x21\x5c\x02\x02\x80\x20\x06\xfe\xff\xff\xff\xff\x21\x02\x05\x08\x02\x38\x07\x21\x0c\xf0\x46\xe2\x8d\xc4\x1b\x89\x37\x12\x6f\xf0\x82\x00"},
	{slices.Repeat([]api.Seq{greatest}, 1000), "\xe8\x07\x01\x1b\x01\x1b\x02\x05\xfa\x03\x00\x00\x20\x04\x00\xf0\xb5\x02\xa8\x1d" + strings.Repeat("\xff", 3751) + "\x7f"},
}

// others are sections that Encode doesn't make, and what steps they have.
var others = []struct {
	section string
	l       []api.Seq
}{
	{"\x01\x01\x00\x01\x00\x01\x00\x00", steps(0, 3, 1)},
	{"\x02\x00\x00\x00\x00\x01\x01\x01\x00\x00", steps(0, 4, 1, 0, 4, 1)},
	{"\x03\x02\x02\x00\x01\x01\x20\x01\x02\x02\x02\x00\x01\x01\x20\x00", steps(0, 5, 1, 0, 5, 1, 0, 5, 1)},
	{"\x04\x02\x02\xc0\x10\x02\x1f\x01\x01\x00\x01\x00\x00", steps(0, 3, 1, 0, 3, 1, 1, 3, 1, 0, 3, 1)},
}

// noSections are texts that begin with no section.
var noSections = []string{
	"",
	// What isn't there.
	"\x01",
	"\x01\x00",
	"\x01\x00\x00",
	"\x01\x00\x00\x00\x00",
	"\x01\x00\x00\x00\x00\x00\x00",
	"\x01\x00\x10\x00\x00\x00\x00\x01",
	"\x01\x00\x10\x00\x10\x00\x10\x02\x00",
	// No number in groups.
	"\x80",
	"\x80\x00",
	"\x81\x00\x00\x00\x00\x00\x00\x00\x00",
	"\x01\x00\x00\x00\x00\x00\x00\x80\x00",
	"\x01\x00\x10\x00\x00\x00\x00\x81\x00\x04",
	"\xff\xff\xff\xff\xff\xff\xff\xff\xff\x02\x00",
	"\x01\x00\x00\x00\x00\x00\x00\xff\xff\xff\xff\xff\xff\xff\xff\xff\x02",
	// More than 1000 of them.
	"\xe9\x07\x01\x00\x01\x00\x01\x00\x00",
	"\x80\x20\x01\x00\x01\x00\x01\x00\x00",
	"\xff\xff\xff\xff\xff\xff\xff\xff\x7f\x01\x00\x01\x00\x01\x00\x00",
	"\xff\xff\xff\xff\xff\xff\xff\xff\xff\x01\x01\x00\x01\x00\x01\x00\x00",
	// No stream.
	"\x01\x03\x00\x00\x00\x00\x00\x00",
	"\x01\x00\x00\x03\x00\x00\x00\x00",
	"\x01\x00\x00\x00\x00\x03\x00\x00",
	"\x01\x00\x1c\x00\x00\x00\x00\x00",
	"\x01\x00\x00\x00\x1c\x00\x00\x00",
	"\x01\x00\x00\x00\x00\x00\x1c\x00",
	"\x01\x00\x1c\x00\x00\x00\x00\x02\x00\x00",
	"\x02\x01\xff\x01\x00\x01\x00\x00",
	"\x03\x02\x02\x00\x03\x01\x20\x01\x02\x01\x00\x00",
	// No offset's number: 1, 2 and 4 are recent, and then what came.
	"\x01\x00\x00\x00\x00\x00\x03\x00",
	"\x01\x00\x00\x00\x00\x00\x04\x00",
	"\x01\x00\x00\x00\x00\x00\x06\x00",
	"\x02\x01\x00\x01\x00\x01\x05\x00",
	"\x02\x01\x00\x01\x00\x00\x0b\x04\x00",
	"\x02\x01\x00\x01\x00\x01\x10\x01\x00",
	// Too few bits.
	"\x01\x00\x10\x00\x00\x00\x00\x00",
	"\x01\x00\x10\x00\x10\x00\x10\x01\x00",
	"\x01\x00\x1b\x00\x1b\x00\x1b\x05\xff\xff\xff\xff\xff",
	// More bytes than it takes.
	"\x01\x00\x00\x00\x00\x00\x00\x01\x00",
	"\x01\x00\x10\x00\x00\x00\x00\x02\x04\x00",
	"\x01\x00\x10\x00\x10\x00\x00\x02\x00\x00",
	"\x01\x00\x10\x00\x10\x00\x00\x02\x00\x01",
	// A bit that isn't 0.
	"\x01\x00\x10\x00\x00\x00\x00\x01\x14",
	"\x01\x00\x10\x00\x00\x00\x00\x01\x84",
	"\x01\x00\x10\x00\x10\x00\x10\x02\x00\x10",
	"\x01\x00\x1b\x00\x1b\x00\x1b\x06\xff\xff\xff\xff\xff\x3f",
}

// steps makes steps, each of three numbers.
func steps(numbers ...int) []api.Seq {
	var l []api.Seq
	for three := range slices.Chunk(numbers, 3) {
		l = append(l, api.Seq{Lits: three[0], Match: three[1], Offset: three[2]})
	}
	return l
}

// few makes n steps of few numbers.
func few(n int) []api.Seq {
	l := make([]api.Seq, n)
	for i := range l {
		l[i] = api.Seq{Lits: i % 3, Match: 3 + i%2, Offset: 1 + i%4}
	}
	return l
}

// wide makes 1000 steps of 15 bits thrice, the offsets of all but the first ones being recent; the last one has another offset.
func wide(first, last int) []api.Seq {
	l := slices.Repeat([]api.Seq{greatest}, 1000)
	for i := range l {
		l[i].Offset -= min(i, first-1)
	}
	l[999].Offset = last
	return l
}

// numbers tells the codes of a list of steps, part by part, and the bits behind these as digits, the first one ahead.
func numbers(l []api.Seq) ([3]string, string) {
	var all [3]string
	var digits strings.Builder
	recent := []int{1, 2, 4}
	for _, s := range l {
		at := slices.Index(recent, s.Offset)
		offset := at
		if at < 0 {
			at, offset = 2, s.Offset+2
		}
		recent = slices.Insert(slices.Delete(recent, at, at+1), 0, s.Offset)
		for i, v := range []int{s.Lits, s.Match - 3, offset} {
			low := strconv.FormatInt(int64(v), 2)[1:]
			if v < 16 {
				all[i] += string([]byte{byte(v)})
				continue
			}
			all[i] += string([]byte{byte(12 + len(low))})
			for _, digit := range slices.Backward([]byte(low)) {
				digits.WriteByte(digit)
			}
		}
	}
	return all, digits.String()
}

// packed tells digits as bytes.
func packed(digits string) string {
	b := make([]byte, (len(digits)+7)/8)
	for i, digit := range []byte(digits) {
		b[i/8] |= (digit - '0') << (i % 8)
	}
	return string(b)
}

// group tells n in groups.
func group(n int) string {
	return string(binary.AppendUvarint(nil, uint64(n)))
}

// section tells the section of steps that may be.
func section(l []api.Seq) string {
	if len(l) == 0 {
		return "\x00"
	}
	all, digits := numbers(l)
	return group(len(l)) + shortest(all[0]) + shortest(all[1]) + shortest(all[2]) + text(packed(digits))
}

// comingSteps tells the steps of the section that s begins with, and what is behind it.
func comingSteps(s string, bound int) ([]api.Seq, string, bool) {
	v, size := binary.Uvarint([]byte(s))
	if size <= 0 || string(binary.AppendUvarint(nil, v)) != s[:size] || bound < 0 || v > uint64(bound) || v > 1000 {
		return nil, "", false
	}
	s = s[size:]
	if v == 0 {
		return nil, s, true
	}
	var all [3]string
	for i := range all {
		codes, rest, ok := comingStream(s, int(v))
		if !ok {
			return nil, "", false
		}
		all[i], s = codes, rest
	}
	behind, s, ok := coming(s)
	if !ok {
		return nil, "", false
	}
	l := guess(all, behind)
	// They are its steps, if they are brought to just these codes and bits.
	again, digits := numbers(l)
	return l, s, again == all && packed(digits) == behind && may(l)
}

// guess reads steps, whatever the numbers of their offsets are; bits that are missing are 0.
func guess(all [3]string, behind string) []api.Seq {
	l := make([]api.Seq, len(all[0]))
	recent := []int{1, 2, 4}
	at := 0
	take := func(code byte) int {
		if code < 16 {
			return int(code)
		}
		v := 1 << (code - 12)
		for i := range code - 12 {
			if at/8 < len(behind) && behind[at/8]>>(at%8)&1 == 1 {
				v |= 1 << i
			}
			at++
		}
		return v
	}
	for i := range l {
		l[i].Lits = take(all[0][i])
		l[i].Match = take(all[1][i]) + 3
		number := take(all[2][i])
		l[i].Offset = number - 2
		if number < 3 {
			l[i].Offset = recent[number]
		}
		number = min(number, 2)
		recent = slices.Insert(slices.Delete(recent, number, number+1), 0, l[i].Offset)
	}
	return l
}

// may tells whether the steps may be.
func may(l []api.Seq) bool {
	for _, s := range l {
		if s.Lits < 0 || s.Lits > 65535 || s.Match < 3 || s.Match > 65538 || s.Offset < 1 || s.Offset > 65533 {
			return false
		}
	}
	return len(l) <= 1000
}

// encode fails if Encode doesn't answer as it must, or Decode doesn't bring the steps back.
func encode(t *testing.T, l []api.Seq) {
	t.Helper()
	same := slices.Clone(l)
	want, got, ok := section(l), "", false
	if got, ok = Encode(l); got != want || !ok || !slices.Equal(l, same) {
		t.Fatalf("Encode(%v): %x, %v, not %x", l, got, ok, want)
	}
	for _, behind := range []string{"", "\x00", "\x01\x00\x00", "all that is behind"} {
		decode(t, got+behind, len(l), l, behind)
	}
	decode(t, got, math.MaxInt, l, "")
	noSteps(t, got, len(l)-1)
}

// notEncoded fails if Encode doesn't refuse.
func notEncoded(t *testing.T, l []api.Seq) {
	t.Helper()
	if s, ok := Encode(l); s != "" || ok {
		t.Fatalf("Encode(%v): %x, %v", l, s, ok)
	}
}

// decode fails if Decode doesn't answer these steps.
func decode(t *testing.T, s string, bound int, l []api.Seq, behind string) {
	t.Helper()
	for _, ahead := range []string{"", "\x02\x01"} {
		r := cursor.New(ahead + s)
		r.Raw(len(ahead))
		got, ok := Decode(r, bound)
		if !slices.Equal(got, l) || !ok || r.Bad() || r.Rest() != behind {
			t.Fatalf("Decode(%x, %d): %v, %v, not %v", s, bound, got, ok, l)
		}
	}
}

// noSteps fails if Decode doesn't refuse.
func noSteps(t *testing.T, s string, bound int) {
	t.Helper()
	if l, ok := Decode(cursor.New(s), bound); len(l) > 0 || ok {
		t.Fatalf("Decode(%x, %d): %v, %v", s, bound, l, ok)
	}
}

// anySection fails if Decode doesn't answer as it must.
func anySection(t *testing.T, s string, bound int) {
	t.Helper()
	l, behind, ok := comingSteps(s, bound)
	if !ok {
		noSteps(t, s, bound)
		return
	}
	decode(t, s, bound, l, behind)
}

// nearSection fails if Decode takes less than a whole section, or doesn't answer as it must of what is like one.
func nearSection(t *testing.T, s string, n int) {
	t.Helper()
	for size := range min(len(s), 60) {
		noSteps(t, s[:size], n)
		noSteps(t, s[:len(s)-1-size], n)
	}
	for at := range min(len(s), 60) {
		if n == 1000 && at%9 > 0 {
			continue
		}
		for bit := range 8 {
			other := []byte(s)
			other[at] ^= 1 << bit
			anySection(t, string(other), n)
			anySection(t, string(other), 2*n+9)
			other[len(s)-1-at] ^= 1 << bit
			anySection(t, string(other), n)
		}
	}
}

func TestExample(t *testing.T) {
	for _, l := range [][]api.Seq{nil, {}} {
		if s, ok := Encode(l); s != "\x00" || !ok {
			t.Fatalf("%x, %v", s, ok)
		}
	}
	r := cursor.New("\x00")
	if l, ok := Decode(r, 0); len(l) > 0 || !ok || !r.Done() {
		t.Fatal(l, ok)
	}
}

func TestSectionsWorkedOut(t *testing.T) {
	for _, c := range sections {
		if s, ok := Encode(c.l); s != c.section || !ok {
			t.Fatalf("Encode(%v): %x, %v, not %x", c.l, s, ok, c.section)
		}
		encode(t, c.l)
		nearSection(t, c.section, len(c.l))
	}
}

func TestOtherSections(t *testing.T) {
	for _, c := range others {
		decode(t, c.section+"behind", len(c.l), c.l, "behind")
		noSteps(t, c.section, len(c.l)-1)
		nearSection(t, c.section, len(c.l))
	}
}

func TestWrongSections(t *testing.T) {
	for _, s := range noSections {
		if _, _, ok := comingSteps(s, math.MaxInt); ok {
			t.Fatalf("%x", s)
		}
		for _, bound := range []int{math.MinInt, -1, 0, 1, 2, 3, 999, 1000, 1001, most, 1 << 32, math.MaxInt} {
			noSteps(t, s, bound)
		}
	}
}

func TestStepsThatMayNotBe(t *testing.T) {
	far := []int{math.MinInt, math.MinInt + 1, math.MinInt + 2, math.MinInt + 3, -1 << 32, -65536, -3, -1, 65539, 65540, 65541, 1 << 17, 1 << 31, 1 << 32, 1<<32 + 9, math.MaxInt - 2, math.MaxInt - 1, math.MaxInt}
	var l []api.Seq
	for _, v := range append(far, 65536, 65537, 65538) {
		l = append(l, api.Seq{Lits: v, Match: 9, Offset: 9})
	}
	for _, v := range append(far, 0, 1, 2) {
		l = append(l, api.Seq{Lits: 9, Match: v, Offset: 9})
	}
	for _, v := range append(far, 0, 65534, 65535, 65536, 65537, 65538) {
		l = append(l, api.Seq{Lits: 9, Match: 9, Offset: v})
	}
	for _, s := range append(l, api.Seq{}) {
		good := api.Seq{Lits: 9, Match: 9, Offset: 9}
		notEncoded(t, []api.Seq{s})
		notEncoded(t, []api.Seq{s, good})
		notEncoded(t, []api.Seq{good, good, s})
		notEncoded(t, append(slices.Repeat([]api.Seq{good}, 999), s))
	}
}

func TestEachNumberOfAStep(t *testing.T) {
	const some = 512
	for from := 0; from < 65536; from += some {
		var l []api.Seq
		for v := from; v < from+some; v++ {
			l = append(l, api.Seq{Lits: v, Match: 65538 - v, Offset: min(v+1, 65533)})
		}
		encode(t, l)
	}
}

func TestHowManySteps(t *testing.T) {
	one := api.Seq{Lits: 0, Match: 3, Offset: 1}
	for _, n := range []int{1, 2, 127, 128, 999, 1000} {
		encode(t, slices.Repeat([]api.Seq{one}, n))
		encode(t, few(n))
		s, _ := Encode(few(n))
		for _, bound := range []int{math.MinInt, math.MinInt + 1, -1 << 32, -1000, -1, 0, n / 2, n - 1} {
			noSteps(t, s, bound)
			noSteps(t, "\x00", min(bound, -1))
		}
		for _, bound := range []int{n, n + 1, 1000, 1001, 1 << 32, math.MaxInt} {
			decode(t, s, bound, few(n), "")
			decode(t, "\x00", bound, nil, "")
		}
	}
	for _, n := range []int{1001, 1002, most, most + 1, 1 << 17} {
		notEncoded(t, slices.Repeat([]api.Seq{one}, n))
		notEncoded(t, few(n))
		noSteps(t, group(n)+"\x01\x00\x01\x00\x01\x00\x00", math.MaxInt)
		noSteps(t, section(few(1001)), math.MaxInt)
	}
}

func TestTextsOfASection(t *testing.T) {
	// The bits behind are just as many as a text may have.
	l := wide(184, 300)
	if _, digits := numbers(l); len(digits) != 8*most {
		t.Fatal(len(digits))
	}
	encode(t, l)
	s, _ := Encode(l)
	noSteps(t, s[:len(s)-1], 1000)
	all, digits := numbers(l)
	head := group(1000) + shortest(all[0]) + shortest(all[1]) + shortest(all[2])
	for _, other := range []string{packed(digits) + "\x00", packed(digits + "1"), packed(digits)[1:]} {
		noSteps(t, head+text(other), 1000)
	}
	// One bit more, and as many more as there may be: no section is read that has them.
	for _, l := range [][]api.Seq{wide(184, 600), wide(999, 60000)} {
		s, ok := Encode(l)
		if s != section(l) || !ok {
			t.Fatal(len(s), ok)
		}
		noSteps(t, s, 1000)
		noSteps(t, s, math.MaxInt)
	}
}

func TestABitBehind(t *testing.T) {
	for _, c := range sections[1:] {
		all, digits := numbers(c.l)
		head := group(len(c.l)) + shortest(all[0]) + shortest(all[1]) + shortest(all[2])
		decode(t, head+text(packed(digits)), 1000, c.l, "")
		for n := range 17 {
			other := digits + strings.Repeat("0", n)
			noSteps(t, head+text(packed(other+"1")), 1000)
			if len(packed(other)) > len(packed(digits)) {
				noSteps(t, head+text(packed(other)), 1000)
			}
		}
		for n := 1; n < 17 && n <= len(digits); n++ {
			other := packed(digits[:len(digits)-n])
			if len(other) < len(packed(digits)) {
				noSteps(t, head+text(other), 1000)
			}
		}
	}
}

func TestEachOffsetAmongRecentOnes(t *testing.T) {
	for i := range 6 * 6 * 6 * 6 * 6 {
		var l []api.Seq
		for range 5 {
			l = append(l, api.Seq{Lits: i % 2, Match: 3, Offset: 1 + i%6})
			i /= 6
		}
		encode(t, l)
		// Each number, of offsets and of none.
		for at := range l {
			l[at].Offset = l[at].Offset * 3 / 2
		}
		b := []byte{byte(l[0].Offset), byte(l[1].Offset), byte(l[2].Offset), byte(l[3].Offset), byte(l[4].Offset)}
		anySection(t, "\x05\x01\x00\x01\x00\x00"+string(b)+"\x00", 5)
	}
}

func TestStepsOfTexts(t *testing.T) {
	d := dice(61)
	for range 300 {
		var b strings.Builder
		for b.Len() < 400 {
			b.WriteString(d.codes(d.next() % 9))
			b.WriteString(strings.Repeat("pemmican "[d.next()%9:], d.next()%5))
		}
		all := b.String()
		dict, record := all[:d.next()%200], all[200:]
		l := parse.Steps(dict, record, d.next()%4)
		encode(t, l)
		s, _ := Encode(l)
		got, _ := Decode(cursor.New(s), len(l))
		if !parse.Right(dict, record, got) {
			t.Fatal(got)
		}
	}
}

func TestAnySteps(t *testing.T) {
	d := dice(62)
	for range 600 {
		l := make([]api.Seq, d.next()%(1+d.next()%(1+d.next()%1000)))
		wide := 1 + d.next()%16
		for i := range l {
			l[i] = api.Seq{Lits: d.next() % (1 << wide), Match: 3 + d.next()%(1<<wide), Offset: min(1+d.next()%(1<<wide), 65533)}
			if i > 1 && d.next()%3 == 0 {
				l[i].Offset = l[i-1-d.next()%2].Offset
			}
		}
		if _, digits := numbers(l); len(digits) <= 8*most {
			encode(t, l)
		}
		s, _ := Encode(l)
		for range 9 {
			other := []byte(s)
			other[d.next()%len(s)] ^= 1 << (d.next() % 8)
			anySection(t, string(other), 1000)
			// Where a section has its kinds.
			other[d.next()%min(len(s), 9)] = byte(d.next() % 9)
			anySection(t, string(other), 1000)
		}
	}
}

func TestEachShortSection(t *testing.T) {
	for i := range 256 {
		c := string([]byte{byte(i)})
		for _, s := range []string{c, c + "\x00", "\x01" + c, "\x01\x00" + c} {
			anySection(t, s, 1)
			anySection(t, s, 1000)
		}
		for at := range 3 {
			for _, behind := range []string{"\x00", "\x01\x00", "\x01\x01", "\x01\x1f", "\x02\xff\x7f", "\x02\xff\xff", "\x02\x00\x00"} {
				s := []byte("\x01\x00\x00\x00\x00\x00\x00")
				s[2*at+2] = c[0]
				anySection(t, string(s)+behind, 1)
				s[2*at+1] = c[0]
				anySection(t, string(s)+behind, 1)
			}
		}
		anySection(t, "\x01\x00\x10\x00\x10\x00\x10\x02\x00"+c, 1)
		anySection(t, "\x01\x00\x10\x00\x10\x00\x10"+c+"\x00\x00\x00", 1)
		anySection(t, "\x02\x00\x10"+c+"\x01\x00\x01\x00\x01"+c, 2)
	}
}

func TestASectionOfNoReader(t *testing.T) {
	for _, bound := range []int{math.MinInt, -1, 0, 1, 1000, math.MaxInt} {
		bad := cursor.New("\x00")
		bad.Raw(2)
		for _, r := range []*cursor.Reader{nil, bad, {}} {
			if l, ok := Decode(r, bound); len(l) > 0 || ok {
				t.Fatal(l, ok)
			}
		}
	}
}

func TestSectionsOneBehindTheOther(t *testing.T) {
	var s string
	for _, c := range sections {
		section, _ := Encode(c.l)
		s += section
	}
	for _, c := range others {
		s += c.section
	}
	r := cursor.New(s + "end")
	// The recent offsets of each section are the first ones again.
	for _, c := range sections {
		if l, ok := Decode(r, 1000); !slices.Equal(l, c.l) || !ok {
			t.Fatal(l, ok)
		}
	}
	for _, c := range others {
		if l, ok := Decode(r, 1000); !slices.Equal(l, c.l) || !ok {
			t.Fatal(l, ok)
		}
	}
	if r.Rest() != "end" {
		t.Fatal(r.Bad())
	}
}

func TestStepsAreNewMemory(t *testing.T) {
	for _, c := range sections {
		r := cursor.New(c.section + c.section)
		// A copy of a reader goes on by itself.
		other := *r
		first, _ := Decode(r, 1000)
		second, _ := Decode(r, 1000)
		third, ok := Decode(&other, 1000)
		for i := range first {
			first[i] = api.Seq{}
		}
		if !ok || !slices.Equal(second, c.l) || !slices.Equal(third, c.l) || !r.Done() || other.Rest() != c.section {
			t.Fatal(second, third)
		}
		if s, ok := Encode(second); s != c.section || !ok {
			t.Fatalf("%x", s)
		}
	}
}

func FuzzEncode(f *testing.F) {
	f.Add([]byte("\x00\x00\x00\x00\x00\x00\xff\xff\xff\xff\xff\xff\x01\x00\x00\x01\x02\x00"))
	f.Fuzz(func(t *testing.T, b []byte) {
		var l []api.Seq
		for ; len(b) >= 6 && len(l) < 700; b = b[6:] {
			l = append(l, api.Seq{
				Lits:   int(binary.LittleEndian.Uint16(b)),
				Match:  3 + int(binary.LittleEndian.Uint16(b[2:])),
				Offset: min(1+int(binary.LittleEndian.Uint16(b[4:])), 65533),
			})
		}
		encode(t, l)
	})
}

func FuzzDecode(f *testing.F) {
	for _, c := range sections {
		f.Add(c.section, len(c.l))
	}
	for _, c := range others {
		f.Add(c.section, len(c.l))
	}
	for _, s := range noSections {
		f.Add(s, most)
	}
	f.Fuzz(anySection)
}
