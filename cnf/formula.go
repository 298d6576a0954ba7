package cnf

import "avow/api"

// formula: what a term is where a formula stands, told by a switch on its type. Operands are told by their numbers.
type formula interface{ formula() }

type base struct{}

func (base) formula() {}

// constant: TTrue, TFalse.
type constant struct {
	base
	holds bool
}

// negation: TNot.
type negation struct {
	base
	of int
}

// conjunction: TAnd.
type conjunction struct {
	base
	of []int
}

// disjunction: TOr.
type disjunction struct {
	base
	of []int
}

// implication: TImp.
type implication struct {
	base
	from, to int
}

// equivalence: TIff, a TEq of formulas.
type equivalence struct {
	base
	left, right int
}

// choice: a TIte of formulas.
type choice struct {
	base
	asked, then, other int
}

// misshapen: a connective with another number of operands than it has. There is none in a formula; elsewhere nothing is known of its truth.
type misshapen struct{ base }

// atom: all else.
type atom struct{ base }

// formula tells what the term of a number is.
func (c *catalog) formula(number int) formula {
	e := c.entries[number]
	op, l := e.term.Op, c.lists[e.list]
	if !c.connective(e) {
		return atom{}
	}
	if so := operandsOf(op); so != anyNumber && so != len(l) {
		return misshapen{}
	}
	switch op {
	case api.TNot:
		return negation{of: l[0]}
	case api.TAnd:
		return conjunction{of: l}
	case api.TOr:
		return disjunction{of: l}
	case api.TImp:
		return implication{from: l[0], to: l[1]}
	case api.TIff, api.TEq:
		return equivalence{left: l[0], right: l[1]}
	case api.TIte:
		return choice{asked: l[0], then: l[1], other: l[2]}
	}
	return constant{holds: op == api.TTrue}
}

func (c *catalog) connective(e entry) bool {
	op := e.term.Op
	if op == api.TEq || op == api.TIte {
		return c.ofFormulas(e.list)
	}
	return op >= api.TTrue && op <= api.TIff
}

const anyNumber = -1

// operandsOf tells how many operands a connective has.
func operandsOf(op int) int {
	switch op {
	case api.TTrue, api.TFalse:
		return 0
	case api.TNot:
		return 1
	case api.TAnd, api.TOr:
		return anyNumber
	case api.TIte:
		return 3
	}
	return 2
}
