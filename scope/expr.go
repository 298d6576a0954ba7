package scope

import (
	"avow/api"
)

func (r *resolver) exprs(l []api.Expr) {
	for i := range l {
		r.expr(&l[i])
	}
}

func (r *resolver) expr(e *api.Expr) {
	rule := r.ruleOf(e.Op)
	rule(e)
}

// ruleOf tells the method by which expressions of an operator are gone through.
func (r *resolver) ruleOf(op int) func(*api.Expr) {
	switch op {
	case api.EVar:
		return r.variable
	case api.ERead:
		return r.cell
	case api.EOld:
		return r.old
	case api.EWrite:
		return r.write
	case api.ECall:
		return r.call
	case api.ELet, api.ETry:
		return r.binding
	}
	return r.operands
}

func (r *resolver) operands(e *api.Expr) { r.exprs(e.L) }

func (r *resolver) variable(e *api.Expr) {
	own := r.binders[e.Name]
	if own == 0 {
		r.refuse(e.At, api.ErrName)
		return
	}
	e.I = r.depth - own
}

func (r *resolver) cell(e *api.Expr) { e.I = r.numberOf(e, r.cells) }

func (r *resolver) old(e *api.Expr) {
	if !r.ensures {
		r.refuse(e.At, api.ErrOld)
	}
	r.cell(e)
}

func (r *resolver) write(e *api.Expr) {
	r.cell(e)
	r.operands(e)
}

func (r *resolver) call(e *api.Expr) {
	e.I = r.numberOf(e, r.defs)
	r.operands(e)
}

// binding goes through a let or a try: the first operand stands outside of what it binds.
func (r *resolver) binding(e *api.Expr) {
	first := min(len(e.L), 1)
	r.exprs(e.L[:first])
	r.under(e.Name, e.L[first:])
}

// numberOf tells the number of what e names among those that may be named.
func (r *resolver) numberOf(e *api.Expr, named map[string]int) int {
	number, ok := named[e.Name]
	if !ok {
		r.refuse(e.At, api.ErrName)
	}
	return number
}
