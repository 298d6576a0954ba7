package eval

import "avow/api"

// precondition tells whether all parameters' refinements, and Requires, are true.
func (r *runner) precondition(d *api.Decl, args []value) bool {
	at, fuel, out := outermost(), r.fuel, true
	for i := range d.Params {
		at.binders = args[: i+1 : i+1] // a binder within the refinement mustn't take the next one's place
		out = r.allTrue(d.Params[i].T.R, at, fuel) && out
	}
	at.binders = args
	return r.allTrue(d.Requires, at, fuel) && out
}

// postcondition tells whether the type's refinement, and Ensures, are true.
func (r *runner) postcondition(d *api.Decl, args []value, result value) bool {
	at, fuel := outermost(), r.fuel
	at.binders = append(args, result)
	out := r.allTrue(d.T.R, at, fuel)
	return r.allTrue(d.Ensures, at, fuel) && out
}

// allTrue tells whether formulas are true; it reckons all of them, as each one that can't be counts.
func (r *runner) allTrue(l []api.Expr, at place, fuel int) bool {
	out := true
	for i := range l {
		r.fuel = fuel
		out = bool(r.truth(&l[i], at)) && out
	}
	return out
}
