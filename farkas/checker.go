package farkas

import (
	"avow/api"
)

// mostParts: so many parts of a refutation take more than 2^31 - 1 bytes. A small one can have more only by lists that it shares, each of them counted as often as it is come to; it is given up, so that every call ends soon.
const mostParts = 1 << 25

// checker goes through a refutation, and counts the parts that are left to it.
type checker struct{ left int }

// refutes tells whether f, which is so deep within a refutation, refutes rows.
func (c *checker) refutes(rows []row, f *api.Farkas, depth int) bool {
	c.left--
	switch {
	case depth > api.MaxDepth || c.left < 0:
		return false
	case f.Split:
		return len(f.L) == 2 && c.splits(rows, f, depth)
	}
	s, ok := sumOf(rows, f.Sum)
	return ok && s.isFalse()
}

// splits tells whether the two sides of a split are refuted.
func (c *checker) splits(rows []row, f *api.Farkas, depth int) bool {
	first, ok := readRow(f.Row)
	if !ok {
		return false
	}
	second, ok := first.opposite()
	return ok && c.refutes(append(rows, first), &f.L[0], depth+1) && c.refutes(append(rows, second), &f.L[1], depth+1)
}
