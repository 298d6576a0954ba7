package eval

import (
	"avow/api"
	"avow/num"
)

// value tells what an expression comes to.
func (r *runner) value(e *api.Expr, at place) value {
	at.depth++
	if at.depth > deepest || at.body.left == 0 || !wellFormed(e) {
		stop(api.OutFuel)
	}
	at.body.left--
	switch e.Op {
	case api.ENum:
		return number{numberOf(e.N)}
	case api.EBool:
		return truth(e.B)
	case api.EVar:
		return variable(e.I, at)
	case api.ERead:
		return cell(r.cells, e.I)
	case api.EOld:
		return cell(r.old, e.I)
	case api.ENeg, api.EMul, api.EAdd, api.ESub:
		return number{r.reckoned(e, at)}
	case api.ENot, api.EEq, api.ENe, api.ELt, api.ELe, api.EGt, api.EGe, api.EAnd, api.EOr, api.EImp:
		return r.judged(e, at)
	case api.ECall:
		return r.calling(e, at)
	case api.EIf:
		if r.truth(&e.L[0], at) {
			return r.value(&e.L[1], at)
		}
		return r.value(&e.L[2], at)
	case api.ELet:
		return r.value(&e.L[1], at.with(r.value(&e.L[0], at)))
	case api.ESeq:
		r.value(&e.L[0], at)
		return r.value(&e.L[1], at)
	case api.EWrite:
		r.write(e.I, r.number(&e.L[0], at))
	case api.ERaise:
		panic(ended{out: api.OutRaise, raised: r.number(&e.L[0], at)})
	case api.ETry:
		return r.try(e, at)
	case api.EAssert:
		if !r.truth(&e.L[0], at) {
			stop(api.OutAssert)
		}
	}
	return unit{} // of EUnit, and of what is done for its effect alone
}

// wellFormed tells whether an expression has as many operands as its operator asks for: no text makes others.
func wellFormed(e *api.Expr) bool {
	switch e.Op {
	case api.ENum, api.EBool, api.EUnit, api.EVar, api.ERead, api.EOld:
		return len(e.L) == 0
	case api.ENeg, api.ENot, api.EWrite, api.ERaise, api.EAssert:
		return len(e.L) == 1
	case api.EIf:
		return len(e.L) == 3
	case api.ECall:
		return true
	}
	return e.Op >= api.EMul && e.Op <= api.ETry && len(e.L) == 2
}

// valueOfKind tells what an expression comes to that is of that kind: in a text that is checked it is.
func (r *runner) valueOfKind(kind int, e *api.Expr, at place) value {
	v := r.value(e, at)
	if v.kind() != kind {
		stop(api.OutFuel)
	}
	return v
}

func (r *runner) number(e *api.Expr, at place) num.Int {
	return r.valueOfKind(api.TyInt, e, at).(number).n
}

func (r *runner) truth(e *api.Expr, at place) truth {
	return r.valueOfKind(api.TyBool, e, at).(truth)
}

func variable(i int, at place) value {
	if i < 0 || i >= len(at.binders) {
		stop(api.OutFuel)
	}
	return at.binders[len(at.binders)-1-i]
}

func cell(cells []num.Int, i int) value {
	if i < 0 || i >= len(cells) {
		stop(api.OutFuel)
	}
	return number{cells[i]}
}

func (r *runner) write(i int, n num.Int) {
	if i < 0 || i >= len(r.cells) {
		stop(api.OutFuel)
	}
	r.cells[i] = n
}

// calling evaluates the arguments, and then the body.
func (r *runner) calling(e *api.Expr, at place) value {
	d := r.definition(e.I)
	if d == nil {
		stop(api.OutFuel)
	}
	args := make([]value, 0, min(len(e.L), api.MaxArgs)) // a longer list may contain itself: it gets no more room than is filled
	for i := range e.L {
		args = append(args, r.value(&e.L[i], at))
	}
	return r.call(d, args, at)
}

// call evaluates a definition's body with values of its parameters.
func (r *runner) call(d *api.Decl, args []value, at place) value {
	if r.fuel == 0 || at.body.calls == mostCalls {
		stop(api.OutFuel)
	}
	r.fuel--
	return r.value(&d.Body, at.called(args))
}

// try evaluates the first operand, and, if it raises, the second one with what is raised.
func (r *runner) try(e *api.Expr, at place) value {
	v, end := attempt(func() value { return r.value(&e.L[0], at) })
	switch end.out {
	case api.OutValue:
		return v
	case api.OutRaise:
		return r.value(&e.L[1], at.with(number{end.raised}))
	}
	panic(end)
}
