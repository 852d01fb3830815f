// Package bits is layer 1: bits, one behind the other (see shared/doc/01-bits.md).
package bits

import (
	mathbits "math/bits"

	"pemmican/api"
)

// wordBits is how many bits a word has.
const wordBits = 64

// A word is never changed once it is made, so that a copy of a Writer goes on by itself.
type word struct {
	ahead *word
	v     uint64
}

// Writer has bits, one behind the other; the zero one has none.
type Writer struct {
	full *word  // the last word whose bits are all there
	rest uint64 // the bits behind full, noughts above them
	n    int
}

// Reader reads bits from the first one on.
type Reader struct {
	text string // a string: what was handed in may change later
	at   int
}

// Put puts the lowest n bits of v behind all that are there, the lowest one first.
func (w *Writer) Put(v uint32, n int) bool {
	if w == nil || n < 0 || n > api.MaxBits {
		return false
	}
	low := lowest(uint64(v), n)
	at := w.n % wordBits
	w.rest |= low << at
	w.n += n
	if at+n >= wordBits {
		w.full = &word{w.full, w.rest}
		w.rest = low >> (wordBits - at)
	}
	return true
}

// Len tells how many bits there are.
func (w *Writer) Len() int {
	if w == nil {
		return 0
	}
	return w.n
}

// Bytes answers the bits as bytes, the first one being the lowest one of the first byte.
func (w *Writer) Bytes() []byte {
	if w == nil {
		return nil
	}
	b := make([]byte, (w.n+7)/8)
	at := w.n / wordBits * (wordBits / 8)
	fill(b[at:], w.rest)
	for p := w.full; p != nil; p = p.ahead {
		at -= wordBits / 8
		fill(b[at:], p.v)
	}
	return b
}

// NewReader reads b's bits from the first one on.
func NewReader(b []byte) *Reader {
	return &Reader{text: string(b)}
}

// Take reads the next n bits as a number, the first one the lowest.
func (r *Reader) Take(n int) (uint32, bool) {
	if r == nil || n < 0 || n > api.MaxBits || n > r.Left() {
		return 0, false
	}
	// Five bytes have 40 bits: 32 of them are there wherever in the first byte they begin.
	from := r.at / 8
	to := min(from+5, len(r.text))
	var v uint64
	for i := from; i < to; i++ {
		v |= uint64(r.text[i]) << (8 * (i - from))
	}
	v = lowest(v>>(r.at%8), n)
	r.at += n
	return uint32(v), true
}

// Left tells how many bits are left.
func (r *Reader) Left() int {
	if r == nil {
		return 0
	}
	return 8*len(r.text) - r.at
}

// Width tells how many bits v has, without noughts ahead.
func Width(v uint32) int {
	return mathbits.Len32(v)
}

// lowest answers the lowest n bits of v, n being less than 64.
func lowest(v uint64, n int) uint64 {
	return v & (1<<n - 1)
}

// fill lays v's bytes, the lowest one first, into b, as far as both go.
func fill(b []byte, v uint64) {
	for i := range min(len(b), wordBits/8) {
		b[i] = byte(v >> (8 * i))
	}
}
