package eval

import (
	"avow/api"
	"avow/num"
)

// reckoned tells the number that an operator makes of numbers.
func (r *runner) reckoned(e *api.Expr, at place) num.Int {
	left := r.number(&e.L[0], at)
	if e.Op == api.ENeg {
		return left.Neg()
	}
	right := r.number(&e.L[1], at)
	switch e.Op {
	case api.EMul:
		return left.Mul(right)
	case api.EAdd:
		return left.Add(right)
	}
	return left.Sub(right)
}

// judged tells the truth that an operator makes of values.
func (r *runner) judged(e *api.Expr, at place) truth {
	switch e.Op {
	case api.ENot:
		return !r.truth(&e.L[0], at)
	case api.EAnd:
		return r.truth(&e.L[0], at) && r.truth(&e.L[1], at)
	case api.EOr:
		return r.truth(&e.L[0], at) || r.truth(&e.L[1], at)
	case api.EImp:
		return !r.truth(&e.L[0], at) || r.truth(&e.L[1], at)
	case api.EEq:
		return r.equal(e, at)
	case api.ENe:
		return !r.equal(e, at)
	}
	return r.ordered(e, at)
}

// equal tells whether two numbers, or two truths, are the same.
func (r *runner) equal(e *api.Expr, at place) truth {
	left := r.value(&e.L[0], at)
	if left.kind() == api.TyBool {
		return left.(truth) == r.truth(&e.L[1], at)
	}
	if left.kind() != api.TyInt {
		stop(api.OutFuel)
	}
	return left.(number).n.Cmp(r.number(&e.L[1], at)) == 0
}

// ordered tells whether two numbers are in the order that is asked for.
func (r *runner) ordered(e *api.Expr, at place) truth {
	left := r.number(&e.L[0], at)
	order := left.Cmp(r.number(&e.L[1], at))
	switch e.Op {
	case api.ELt:
		return order < 0
	case api.ELe:
		return order <= 0
	case api.EGt:
		return order > 0
	}
	return order >= 0
}
