package smt

import (
	"avow/api"
	"avow/euf"
)

// candidate: truths of all formulas that keep the lines; and, of these, those that make the given formulas true: only they are asked of theories.
type candidate struct {
	solver *solver
	truths []bool // by literals
	seen   []bool // by literals: it is needed
	isTold []bool // by literals
	told   []int  // literals that are true, for theories

	refuted  bool     // a theory had something to add
	closure  *euf.Euf // what is equal by asserted
	asserted []int    // those of told that closure took
	unsure   bool     // nothing is known of numbers
	numbers  []api.Coef
	tooLong  []int // of told: they can't all be, but package cert can't tell their rows
	shape    *shape
}

func newCandidate(s *solver, truths []bool) *candidate {
	c := &candidate{solver: s, truths: truths, seen: make([]bool, len(truths)), isTold: make([]bool, len(truths))}
	c.needAll(s.inputs)
	c.needAll(s.open)
	return c
}

// truth tells whether a formula is true.
func (c *candidate) truth(id int) bool { return c.truths[c.solver.bank.entries[id].literal-1] }

// need makes sure that a formula is as it is, whatever the formulas are that aren't needed.
func (c *candidate) need(id int) {
	x := &c.solver.bank.entries[id]
	if c.seen[x.literal-1] {
		return
	}
	c.seen[x.literal-1] = true
	if c.solver.bank.isConnective(x) {
		c.connective(x.op, x.parts, c.truth(id))
		return
	}
	c.tell(id)
	switch {
	case x.op == api.TAll && c.truth(id):
		c.needAll(c.solver.instances.made[id])
	case x.op == api.TEq && !c.truth(id):
		c.third(id)
	}
	c.within(id)
}

func (c *candidate) needAll(ids []int) {
	for _, id := range ids {
		c.need(id)
	}
}

// connective needs of the operands as many as make it what it is.
func (c *candidate) connective(op int, parts []int, holds bool) {
	switch {
	case op == api.TAnd && !holds:
		c.needOne(parts, false)
	case op == api.TOr && holds:
		c.needOne(parts, true)
	case op == api.TImp && holds && c.truth(parts[0]):
		c.need(parts[1])
	case op == api.TImp && holds:
		c.need(parts[0])
	case op == api.TIte && c.truth(parts[0]):
		c.needAll(parts[:2])
	case op == api.TIte:
		c.need(parts[0])
		c.need(parts[2])
	default:
		c.needAll(parts)
	}
}

// needOne needs one of those that are so: one that is needed anyway, if there is one.
func (c *candidate) needOne(parts []int, so bool) {
	first := -1
	for _, p := range parts {
		if c.truth(p) != so {
			continue
		}
		if c.seen[c.solver.bank.entries[p].literal-1] {
			return
		}
		if first < 0 {
			first = p
		}
	}
	c.need(first)
}

// tell tells a formula's literal to the theories.
func (c *candidate) tell(id int) {
	literal := c.solver.bank.entries[id].literal
	if c.isTold[literal-1] {
		return
	}
	c.isTold[literal-1] = true
	if !c.truths[literal-1] {
		literal = -literal
	}
	c.told = append(c.told, literal)
}

// third needs, of an equation of numbers that is false, the one that says which of them is less, once that is asked.
func (c *candidate) third(id int) {
	less, ok := c.solver.thirds[id]
	switch {
	case !ok:
	case c.truth(less[0]):
		c.need(less[0])
	default:
		c.need(less[1])
	}
}

// within needs what stands within an atom.
func (c *candidate) within(id int) {
	in := c.solver.inner[id]
	for _, f := range in.formulas {
		c.need(f)
		x := &c.solver.bank.entries[f]
		switch w, ok := c.solver.worths[f]; {
		case ok && c.truth(f):
			c.tell(w.yes)
		case ok:
			c.tell(w.no)
		case c.solver.bank.isConnective(x):
			c.tell(f)
		}
	}
	for _, t := range in.choices {
		x := c.solver.choices[t]
		c.need(x.asked)
		if c.truth(x.asked) {
			c.need(x.then)
		} else {
			c.need(x.other)
		}
	}
}
