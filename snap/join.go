package snap

import (
	"strings"

	"pemmican/api"
	"pemmican/cursor"
	"pemmican/sum"
)

// mostSize is of how many bytes a text may be that is put together.
const mostSize = 1 << 20

// Joiner puts pieces together, n bytes so far, to a text of size bytes that has that sum.
type Joiner struct {
	size int
	sum  uint64
	text cursor.Writer
	n    int
}

// New answers a Joiner of a text of size bytes, brought to 0 up to 2^20, that has that sum.
func New(size int, sum uint64) *Joiner {
	return &Joiner{size: min(max(size, 0), mostSize), sum: sum}
}

// Put puts a piece behind the others, whose place is as many bytes as there are.
func (j *Joiner) Put(at int, s string) api.Errno {
	if j == nil {
		return api.ErrArg
	}
	if at != j.n {
		return api.ErrOrder
	}
	if len(s) > j.size-j.n {
		return api.ErrLong
	}
	j.text.Raw(strings.Clone(s))
	j.n += len(s)
	return api.OK
}

// Done answers the text, if all of it is there.
func (j *Joiner) Done() (string, api.Errno) {
	if j == nil {
		return "", api.ErrArg
	}
	if j.n < j.size {
		return "", api.ErrForm
	}
	text := j.text.String()
	if sum.Of(text) != j.sum {
		return "", api.ErrSum
	}
	return text, api.OK
}

// Size tells how many bytes there are.
func (j *Joiner) Size() int {
	if j == nil {
		return 0
	}
	return j.n
}
