package train

import "container/heap"

// A piece has what it was worth when it was looked at last: by now it may be worth less, and never more.
type piece struct {
	text  string
	worth int
	order int // among all pieces, by their records and then by their places
}

// Pieces that wait: the one that is worth most is on top.
type pieces []piece

// Len tells how many pieces wait.
func (h pieces) Len() int { return len(h) }

// Less puts the first one of two that are worth as much on top.
func (h pieces) Less(i, j int) bool {
	if h[i].worth != h[j].worth {
		return h[i].worth > h[j].worth
	}
	return h[i].order < h[j].order
}

// Swap changes two pieces' places.
func (h pieces) Swap(i, j int) { h[i], h[j] = h[j], h[i] }

// Push puts a piece behind all others.
func (h *pieces) Push(x any) {
	if p, ok := x.(piece); ok {
		*h = append(*h, p)
	}
}

// Pop takes the last piece away.
func (h *pieces) Pop() any {
	last := len(*h) - 1
	p := (*h)[last]
	*h = (*h)[:last]
	return p
}

// worthy answers the pieces of records that are worth more than nothing.
func worthy(records []string, w weights) *pieces {
	h := &pieces{}
	order := 0
	for _, s := range records {
		size := min(max(len(s), gramSize), pieceSize)
		for place := range len(s) - size + 1 {
			text := s[place : place+size]
			if n := w.worth(text); n > 0 {
				*h = append(*h, piece{text: text, worth: n, order: order})
			}
			order++
		}
	}
	heap.Init(h)
	return h
}

// best takes the piece off h that is worth most by w, as long as there is one that is worth more than nothing.
func (h *pieces) best(w weights) (piece, bool) {
	for h.Len() > 0 {
		p, ok := heap.Pop(h).(piece)
		if !ok {
			continue
		}
		now := w.worth(p.text)
		// What was worth most and is as ever is worth most now, for the others only lost.
		if now == p.worth {
			return p, true
		}
		if now > 0 {
			p.worth = now
			heap.Push(h, p)
		}
	}
	return piece{}, false
}
