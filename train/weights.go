package train

import "strings"

// Weights tells of each gram that isn't taken in how many records it is, less 1.
type weights map[string]int

// weigh answers the weights of all grams of records.
func weigh(records []string) weights {
	w := weights{}
	last := map[string]int{} // the last record that had a gram: so each record counts once
	for i, s := range records {
		for place := range len(s) - gramSize + 1 {
			gram := s[place : place+gramSize]
			before, there := last[gram]
			switch {
			case !there:
				w[gram] = 0
			case before < i:
				w[gram]++
			}
			last[gram] = i
		}
	}
	return w
}

// worth sums the weights of the grams in text.
func (w weights) worth(text string) int {
	sum := 0
	for place := range len(text) - gramSize + 1 {
		gram := text[place : place+gramSize]
		// A gram that was in text ahead of here is counted.
		if n := w[gram]; n > 0 && strings.Index(text, gram) == place {
			sum += n
		}
	}
	return sum
}

// take sums the weights of the grams in text, and takes each of them: so it counts once, however long text is.
func (w weights) take(text string) int {
	sum := 0
	for place := range len(text) - gramSize + 1 {
		gram := text[place : place+gramSize]
		sum += w[gram]
		delete(w, gram)
	}
	return sum
}
