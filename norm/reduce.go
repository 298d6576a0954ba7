package norm

import "avow/api"

// reduce tells what an expression comes to, with what stands in the places of its variables.
func (r *reducer) reduce(e *api.Expr, of binders) api.Expr {
	r.enter()
	out := r.made(e, of)
	r.leave()
	return out
}

func (r *reducer) made(e *api.Expr, of binders) api.Expr {
	switch e.Op {
	case api.ENum, api.EBool, api.EUnit:
		return bare(e)
	case api.EVar:
		return r.variable(e, of)
	case api.EAnd, api.EOr, api.EImp:
		return r.connection(e, of)
	case api.ECall:
		return r.call(e, of)
	case api.EIf:
		return r.choice(e, of)
	case api.ELet:
		return r.binding(e, of)
	case api.ESeq:
		return r.sequence(e, of)
	case api.ETry:
		return r.catching(e, of)
	}
	return r.standing(e, r.operands(e.L, of))
}

// operands reduces expressions that stand beside one another.
func (r *reducer) operands(l []api.Expr, of binders) []api.Expr {
	if len(l) == 0 {
		return nil
	}
	out := make([]api.Expr, 0, min(len(l), api.MaxArgs)) // a longer list may contain itself: it gets no more room than is filled
	for i := range l {
		out = append(out, r.reduce(&l[i], of))
	}
	return out
}

// standing tells what an expression comes to whose operands have been reduced to these.
func (r *reducer) standing(e *api.Expr, operands []api.Expr) api.Expr {
	out := *e
	out.L = operands
	if Value(out) {
		return out
	}
	if value, ok := worth(&out); ok {
		return value
	}
	return r.stays(out)
}

func (r *reducer) variable(e *api.Expr, of binders) api.Expr {
	value, i := of(e.I)
	if value != nil { // it is no deeper than the variable was
		return r.made(value, free)
	}
	out := bare(e)
	out.I = i
	return r.stays(out)
}

// bare tells what has no operands as it stands.
func bare(e *api.Expr) api.Expr {
	out := *e
	out.L = nil
	return out
}

func (r *reducer) connection(e *api.Expr, of binders) api.Expr {
	if len(e.L) != 2 {
		return r.standing(e, r.operands(e.L, of))
	}
	left := r.reduce(&e.L[0], of)
	switch {
	case left.Op != api.EBool:
		return r.standing(e, []api.Expr{left, r.reduce(&e.L[1], of)})
	case e.Op == api.EImp && !left.B:
		return truth(e.At, true)
	case e.Op == api.EAnd && !left.B, e.Op == api.EOr && left.B:
		return left
	}
	return r.reduce(&e.L[1], of)
}

func (r *reducer) choice(e *api.Expr, of binders) api.Expr {
	if len(e.L) != 3 {
		return r.standing(e, r.operands(e.L, of))
	}
	first := r.reduce(&e.L[0], of)
	switch {
	case first.Op != api.EBool:
		return r.standing(e, []api.Expr{first, r.reduce(&e.L[1], of), r.reduce(&e.L[2], of)})
	case first.B:
		return r.reduce(&e.L[1], of)
	}
	return r.reduce(&e.L[2], of)
}

func (r *reducer) binding(e *api.Expr, of binders) api.Expr {
	if len(e.L) != 2 {
		return r.standing(e, r.operands(e.L, of))
	}
	first := r.reduce(&e.L[0], of)
	if Value(first) {
		return r.reduce(&e.L[1], of.with(&first))
	}
	return r.standing(e, []api.Expr{first, r.reduce(&e.L[1], of.under())})
}

func (r *reducer) catching(e *api.Expr, of binders) api.Expr {
	if len(e.L) != 2 {
		return r.standing(e, r.operands(e.L, of))
	}
	return r.standing(e, []api.Expr{r.reduce(&e.L[0], of), r.reduce(&e.L[1], of.under())})
}

func (r *reducer) sequence(e *api.Expr, of binders) api.Expr {
	if len(e.L) != 2 {
		return r.standing(e, r.operands(e.L, of))
	}
	first := r.reduce(&e.L[0], of)
	if Value(first) {
		return r.reduce(&e.L[1], of)
	}
	return r.standing(e, []api.Expr{first, r.reduce(&e.L[1], of)})
}

func (r *reducer) call(e *api.Expr, of binders) api.Expr {
	args := r.operands(e.L, of)
	d := r.pure(e.I)
	if d == nil || len(args) != len(d.Params) || !allValues(args) {
		return r.standing(e, args)
	}
	return r.body(d, args)
}

// body tells what a definition's body comes to, with values in its parameters' places.
func (r *reducer) body(d *api.Decl, args []api.Expr) api.Expr {
	if r.fuel == 0 || r.calls == mostCalls {
		stop()
	}
	of := binders(free)
	for i := range args {
		of = of.with(&args[i])
	}
	left := r.left
	r.fuel--
	r.calls++
	r.left = most // the body is a tree of its own
	out := r.reduce(&d.Body, of)
	r.left = left
	r.calls--
	return out
}
