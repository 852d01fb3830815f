package parse

import (
	"strings"

	"pemmican/api"
)

// Right tells whether the steps make text, all of dict being ahead of it.
func Right(dict, text string, l []api.Seq) bool {
	whole := dict + text
	at := len(dict)
	for _, s := range l {
		if s.Lits < 0 || s.Lits > len(whole)-at {
			return false
		}
		at += s.Lits
		if !matches(whole, at, s) {
			return false
		}
		at += s.Match
	}
	return true
}

// matches tells whether whole has at the place at just the bytes of the step's match.
func matches(whole string, at int, s api.Seq) bool {
	if s.Match < api.MinMatch || s.Match > len(whole)-at || s.Offset < 1 || s.Offset > at {
		return false
	}
	from := at - s.Offset
	return whole[from:from+s.Match] == whole[at:at+s.Match]
}

// Literals answers the bytes of text that are literals.
func Literals(text string, l []api.Seq) string {
	var b strings.Builder
	for _, s := range l {
		lits := within(s.Lits, text)
		b.WriteString(text[:lits])
		text = text[lits:]
		text = text[within(s.Match, text):]
	}
	b.WriteString(text)
	return b.String()
}

// within brings n to a number of text's bytes, for steps may be any that make no text.
func within(n int, text string) int {
	return min(max(n, 0), len(text))
}
