package huff

import "container/heap"

// A node is a symbol, or two nodes joined to one.
type node struct {
	weight int
	place  int // among all nodes: a symbol's is the symbol, those that are joined follow
}

// A pile has its lightest node on top.
type pile []node

// Len tells how many nodes there are.
func (p pile) Len() int { return len(p) }

// Less puts the elder one of two as heavy on top: so trees are no deeper than they must be.
func (p pile) Less(i, j int) bool {
	if p[i].weight != p[j].weight {
		return p[i].weight < p[j].weight
	}
	return p[i].place < p[j].place
}

// Swap changes two nodes' places.
func (p pile) Swap(i, j int) { p[i], p[j] = p[j], p[i] }

// Push puts a node behind all others.
func (p *pile) Push(x any) {
	if n, ok := x.(node); ok {
		*p = append(*p, n)
	}
}

// Pop takes the last node away.
func (p *pile) Pop() any {
	last := len(*p) - 1
	n := (*p)[last]
	*p = (*p)[:last]
	return n
}

// lightest takes the lightest node off p, which isn't empty.
func (p *pile) lightest() node {
	n, ok := heap.Pop(p).(node)
	if !ok {
		return node{}
	}
	return n
}

// leaves answers a pile of the symbols that have a count.
func leaves(counts []int) *pile {
	p := &pile{}
	for symbol, n := range counts {
		if n > 0 {
			heap.Push(p, node{weight: n, place: symbol})
		}
	}
	return p
}

// unbounded answers Huffman's lengths.
func unbounded(counts []int) []int {
	p := leaves(counts)
	if p.Len() == 1 {
		lengths := make([]int, len(counts))
		lengths[p.lightest().place] = 1
		return lengths
	}
	return depths(join(p, len(counts)))[:len(counts):len(counts)]
}

// join joins the two lightest nodes of p, till one is left, and tells what each node is joined to, 0 where there is nothing.
func join(p *pile, symbols int) []int {
	above := make([]int, symbols)
	for p.Len() > 1 {
		a, b := p.lightest(), p.lightest()
		place := len(above)
		above[a.place], above[b.place] = place, place
		above = append(above, 0)
		heap.Push(p, node{weight: a.weight + b.weight, place: place})
	}
	return above
}

// depths tells how many nodes stand above each one.
func depths(above []int) []int {
	l := make([]int, len(above))
	// What a node is joined to comes behind it.
	for i := len(above) - 1; i >= 0; i-- {
		if above[i] > 0 {
			l[i] = l[above[i]] + 1
		}
	}
	return l
}
