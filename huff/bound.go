package huff

import (
	"slices"

	"pemmican/api"
)

// A parcel is symbols, some of them several times, that get one bit more together.
type parcel struct {
	weight  int
	symbols []int
}

// bounded answers the lengths of at most MaxLength that cost least, by parcels made of pairs (package-merge):
// a symbol's length is in how many parcels of the lightest it is.
func bounded(counts []int) []int {
	single := singles(counts)
	list := single
	for range api.MaxLength - 1 {
		list = lighterFirst(slices.Concat(single, pairs(list)))
	}
	lengths := make([]int, len(counts))
	for _, p := range list[:2*len(single)-2] {
		for _, symbol := range p.symbols {
			lengths[symbol]++
		}
	}
	return lengths
}

// singles answers a parcel for each symbol with a count, the lightest one first.
func singles(counts []int) []parcel {
	var l []parcel
	for symbol, n := range counts {
		if n > 0 {
			l = append(l, parcel{weight: n, symbols: []int{symbol}})
		}
	}
	return lighterFirst(l)
}

// pairs makes one parcel of each two of l; a last one alone is left out.
func pairs(l []parcel) []parcel {
	var pairs []parcel
	for pair := range slices.Chunk(l, 2) {
		if len(pair) == 2 {
			pairs = append(pairs, parcel{
				weight:  pair[0].weight + pair[1].weight,
				symbols: slices.Concat(pair[0].symbols, pair[1].symbols),
			})
		}
	}
	return pairs
}

// lighterFirst brings l into order.
func lighterFirst(l []parcel) []parcel {
	slices.SortStableFunc(l, func(a, b parcel) int { return a.weight - b.weight })
	return l
}
