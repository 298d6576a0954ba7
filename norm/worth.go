package norm

import (
	"avow/api"
	"avow/num"
)

// worth tells what an operator makes of its operands; false, if they aren't values of which it makes one.
func worth(e *api.Expr) (api.Expr, bool) {
	switch e.Op {
	case api.ENot:
		if len(e.L) == 1 && e.L[0].Op == api.EBool {
			return truth(e.At, !e.L[0].B), true
		}
	case api.ENeg:
		if n, ok := numbers(e.L, 1); ok {
			return number(e.At, n[0].Neg()), true
		}
	case api.EMul, api.EAdd, api.ESub:
		if n, ok := numbers(e.L, 2); ok {
			return number(e.At, reckoned(e.Op, n[0], n[1])), true
		}
	case api.EEq, api.ENe, api.ELt, api.ELe, api.EGt, api.EGe:
		if n, ok := numbers(e.L, 2); ok {
			return truth(e.At, compared(e.Op, n[0].Cmp(n[1]))), true
		}
		return agreement(e)
	}
	return api.Expr{}, false
}

func reckoned(op int, a, b num.Int) num.Int {
	switch op {
	case api.EMul:
		return a.Mul(b)
	case api.EAdd:
		return a.Add(b)
	}
	return a.Sub(b)
}

// compared tells whether a comparison holds of two numbers of which the first is less (-1), the same, or more.
func compared(op, order int) bool {
	switch op {
	case api.EEq:
		return order == 0
	case api.ENe:
		return order != 0
	case api.ELt:
		return order < 0
	case api.ELe:
		return order <= 0
	case api.EGt:
		return order > 0
	}
	return order >= 0
}

// agreement tells whether two truths are the same, or are not; false, if that isn't what is asked.
func agreement(e *api.Expr) (api.Expr, bool) {
	if e.Op != api.EEq && e.Op != api.ENe || len(e.L) != 2 || e.L[0].Op != api.EBool || e.L[1].Op != api.EBool {
		return api.Expr{}, false
	}
	return truth(e.At, (e.L[0].B == e.L[1].B) == (e.Op == api.EEq)), true
}

// numbers tells so many expressions as the numbers that they are; false, if they aren't.
func numbers(l []api.Expr, many int) ([]num.Int, bool) {
	if len(l) != many {
		return nil, false
	}
	var out []num.Int
	for i := range l {
		switch {
		case l[i].Op == api.ENum:
			out = append(out, told(&l[i]))
		case l[i].Op == api.ENeg && Value(l[i]):
			out = append(out, told(&l[i].L[0]).Neg())
		default:
			return nil, false
		}
	}
	return out, true
}

// number tells a number as a value.
func number(at int, n num.Int) api.Expr {
	if n.Sign() >= 0 {
		return api.Expr{Op: api.ENum, N: n.String(), At: at}
	}
	return api.Expr{Op: api.ENeg, L: []api.Expr{{Op: api.ENum, N: n.Neg().String(), At: at}}, At: at}
}

func truth(at int, b bool) api.Expr {
	return api.Expr{Op: api.EBool, B: b, At: at}
}

func allValues(l []api.Expr) bool {
	for i := range l {
		if !Value(l[i]) {
			return false
		}
	}
	return true
}
