package litcode

import "pemmican/bits"

// A fork tells where each bit leads: above 0 to the fork of that place, below 0 to a byte (-1 to the byte 0), 0 nowhere.
type fork [2]int

// tree answers the forks of codes, the first one being where each code begins.
func tree(lengths, codes []int) []fork {
	forks := make([]fork, 1)
	for symbol, n := range lengths {
		if n == 0 {
			continue
		}
		code, at := codes[symbol], 0
		for i := n - 1; i > 0; i-- {
			bit := code >> i & 1
			if forks[at][bit] == 0 {
				forks[at][bit] = len(forks)
				forks = append(forks, fork{})
			}
			at = forks[at][bit]
		}
		forks[at][code&1] = -1 - symbol
	}
	return forks
}

// symbol reads the byte whose code comes next.
func symbol(forks []fork, r *bits.Reader) (byte, bool) {
	at := 0
	for {
		bit, ok := r.Take(1)
		if !ok {
			return 0, false
		}
		at = forks[at][bit]
		if at < 0 {
			return byte(-1 - at), true
		}
		if at == 0 {
			return 0, false
		}
	}
}
