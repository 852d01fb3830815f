package codes

import "slices"

// Recent are the three offsets that came last, the last one first.
type Recent [3]int

const (
	shift     = 2 // an offset that isn't recent and this are its number
	maxOffset = maxNumber - shift
)

// First answers the recent offsets at first.
func First() Recent {
	return Recent{1, 2, 4}
}

// Number answers the offset's number, and the recent ones behind it.
func (r Recent) Number(offset int) (int, Recent, bool) {
	if offset < 1 || offset > maxOffset {
		return 0, r, false
	}
	at := slices.Index(r[:], offset)
	if at < 0 {
		return offset + shift, r.ahead(offset, len(r)-1), true
	}
	return at, r.ahead(offset, at), true
}

// Offset answers the offset that has this number, and the recent ones behind it.
func (r Recent) Offset(number int) (int, Recent, bool) {
	if number < 0 {
		return 0, r, false
	}
	offset := number - shift
	if number < len(r) {
		offset = r[number]
	}
	// An offset that stands further ahead has another number, and what stands in r need not be an offset.
	own, behind, ok := r.Number(offset)
	if !ok || own != number {
		return 0, r, false
	}
	return offset, behind, true
}

// ahead answers the recent ones with offset ahead of the others, in place of what stands at the place at.
func (r Recent) ahead(offset, at int) Recent {
	copy(r[1:at+1], r[:at])
	r[0] = offset
	return r
}
