package seqs

import (
	"bytes"
	"cmp"
	"slices"

	"pemmican/bits"
	"pemmican/count"
	"pemmican/cursor"
	"pemmican/fse"
	"pemmican/header"
	"pemmican/spread"
)

// Kinds of streams.
const (
	plain = 0 // the codes themselves
	alike = 1 // one code, which they all are
	coded = 2 // a share, and the codes by its table
)

const (
	kindBytes = 1    // bytes of a stream's kind
	allCodes  = 28   // codes are below this
	mostCodes = 4096 // codes that are read at most
	mostText  = 4096 // bytes of a text that is read, at most
)

// Stream answers the shortest stream of codes.
func Stream(codes []byte) string {
	// Of several as short ones this is the first one, which has the least kind.
	return slices.MinFunc(streams(codes), func(a, b string) int {
		return cmp.Compare(len(a), len(b))
	})
}

// Unstream reads the n codes of the stream that comes next.
func Unstream(r *cursor.Reader, n int) ([]byte, bool) {
	if n < 0 || n > mostCodes {
		return nil, false
	}
	codes, ok := read(r, n)
	if !ok || !right(codes) {
		return nil, false
	}
	return codes, true
}

// streams answers a stream of each kind that there is, the lesser kinds ahead.
func streams(codes []byte) []string {
	l := []string{stream(plain).Raw(string(codes)).String()}
	counts := count.Of(codes)
	if count.Symbols(counts) == 1 {
		l = append(l, stream(alike).Raw(string(codes[:1])).String())
	}
	if short, ok := inCode(codes, counts); ok {
		l = append(l, short)
	}
	return l
}

// stream begins a stream.
func stream(kind uint64) *cursor.Writer {
	w := &cursor.Writer{}
	return w.Fixed(kind, kindBytes)
}

// inCode answers the stream of kind 2; there is none if the counts have no share.
func inCode(codes []byte, counts []int) (string, bool) {
	log := count.Log(counts)
	share, ok := count.Share(counts, log)
	if !ok {
		return "", false
	}
	// What count.Share answers is fair, and each code that comes has some of it.
	var w bits.Writer
	header.Put(&w, share, log)
	table, _ := spread.Build(share, log)
	short, _ := fse.Encode(table, codes)
	return stream(coded).Text(string(w.Bytes())).Text(string(short)).String(), true
}

// read reads n codes, which may be too great.
func read(r *cursor.Reader, n int) ([]byte, bool) {
	kind := r.Fixed(kindBytes)
	if r.Bad() {
		return nil, false
	}
	switch kind {
	case plain:
		s := r.Raw(n)
		return []byte(s), !r.Bad()
	case alike:
		s := r.Raw(1)
		return bytes.Repeat([]byte(s), n), !r.Bad()
	case coded:
		return outOfCode(r, n)
	}
	return nil, false
}

// outOfCode reads n codes of a stream of kind 2, behind its kind.
func outOfCode(r *cursor.Reader, n int) ([]byte, bool) {
	head := r.Text(mostText)
	short := r.Text(mostText)
	if r.Bad() {
		return nil, false
	}
	table, ok := tableOf(head)
	if !ok {
		return nil, false
	}
	return fse.Decode(table, []byte(short), n)
}

// tableOf answers the table of the share whose bits head has.
func tableOf(head string) (*spread.Table, bool) {
	r := bits.NewReader([]byte(head))
	share, log, ok := header.Take(r)
	if !ok || !ends(r) {
		return nil, false
	}
	return spread.Build(share, log)
}

// ends tells whether nothing is left but noughts up to the end of a byte.
func ends(r *bits.Reader) bool {
	n := r.Left()
	v, _ := r.Take(n)
	return n < 8 && v == 0
}

// right tells whether codes are such, all of them.
func right(codes []byte) bool {
	return !slices.ContainsFunc(codes, func(c byte) bool { return c >= allCodes })
}
