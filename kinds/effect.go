package kinds

import (
	"avow/api"
)

// effects: a set of what an expression may do beside having a value.
type effects int

const (
	cells   effects = 1 << iota // reads or writes cells
	raising                     // may raise
	endless                     // may not end

	nothing effects = 0
)

// allowed tells what a definition of an effect may do, and so what its calls may do.
func allowed(effect int) effects {
	switch effect {
	case api.EfState:
		return cells
	case api.EfExn:
		return raising
	case api.EfAll:
		return cells | raising
	case api.EfDiv:
		return cells | raising | endless
	}
	return nothing
}

// effectsOf tells what an expression may do.
func (p *program) effectsOf(e *api.Expr) effects {
	p.enter(e)
	out := p.ownEffects(e)
	for i := range e.L {
		of := p.effectsOf(&e.L[i])
		if e.Op == api.ETry && i == 0 {
			of &^= raising // what it raises goes no further
		}
		out |= of
	}
	p.leave()
	return out
}

// ownEffects tells what an operator may do, whatever its operands may.
func (p *program) ownEffects(e *api.Expr) effects {
	switch e.Op {
	case api.ERead, api.EOld, api.EWrite:
		return cells
	case api.ERaise:
		return raising
	case api.ECall:
		if d := p.def(e.I); d != nil {
			return allowed(d.Effect)
		}
	}
	return nothing
}
