package smt

import (
	"avow/api"
	"avow/euf"
)

// inTerm: so many operators of a term are gone through in a step.
const inTerm = 32

// theory: what knows more of literals than that they are true.
type theory interface {
	// learn adds lines that the candidate's truths don't keep, or that ask for more of them. It tells whether it added something.
	learn(c *candidate) bool
}

// equality: of terms that are made alike of equal ones.
type equality struct{ *solver }

func (s equality) learn(c *candidate) bool {
	c.closure = euf.New()
	added := false
	for _, literal := range c.told {
		s.purse.spend(1 + s.atom(literal).size/inTerm)
		c.closure.Push()
		can, e := c.closure.Assert(s.told(literal))
		if e != api.OK {
			continue
		}
		c.asserted = append(c.asserted, literal)
		if !can {
			s.add(line{kind: api.LineEuf, clause: c.against(c.closure.Conflict())})
			// Without the one that is too many, the others may show more.
			c.closure.Pop()
			c.asserted = c.asserted[:len(c.asserted)-1]
			added = true
		}
	}
	return added
}

// against tells the clause that says that not all of these of asserted can be.
func (c *candidate) against(numbers []int) []int {
	out := make([]int, len(numbers))
	for i, n := range numbers {
		out[i] = -c.asserted[n]
	}
	return out
}
