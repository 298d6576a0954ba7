package scope

import (
	"avow/api"
)

// resolver goes through declarations in order and writes into their expressions what the names there stand for.
type resolver struct {
	cells, defs map[string]int  // by names: numbers of those that may be named
	binders     map[string]int  // by names: how many binders there are, down to the innermost one of that name; 0, if there is none
	depth       int             // how many binders there are
	ensures     bool            // Ensures is being gone through: an old may stand nowhere else
	wrong       *api.PlaceError // the first error
}

func newResolver() *resolver {
	return &resolver{cells: map[string]int{}, defs: map[string]int{}}
}

// refuse keeps the first error: going on behind it does no harm, as nothing else is told then.
func (r *resolver) refuse(at int, err api.Errno) {
	if r.wrong == nil {
		r.wrong = &api.PlaceError{At: at, Err: err}
	}
}

func (r *resolver) decl(d *api.Decl) {
	if r.isDeclared(d.Name) {
		r.refuse(d.At, api.ErrTwice)
	}
	if d.Cell {
		number := len(r.cells)
		r.cells[d.Name] = number
		return
	}
	number := len(r.defs)
	if d.Rec {
		r.defs[d.Name] = number
	}
	r.definition(d)
	r.defs[d.Name] = number
}

func (r *resolver) isDeclared(name string) bool {
	_, cell := r.cells[name]
	_, def := r.defs[name]
	return cell || def
}

func (r *resolver) definition(d *api.Decl) {
	r.binders, r.depth = map[string]int{}, 0
	for i := range d.Params {
		r.param(&d.Params[i])
	}
	r.exprs(d.Requires)
	r.under(d.T.Name, d.T.R)
	r.ensures = true
	r.under(d.Result, d.Ensures)
	r.ensures = false
	r.exprs(d.Measure)
	r.expr(&d.Body)
}

// param goes through a parameter, and leaves it as the innermost binder.
func (r *resolver) param(p *api.Param) {
	if r.binders[p.Name] > 0 {
		r.refuse(p.At, api.ErrTwice)
	}
	r.under(p.T.Name, p.T.R)
	r.depth++
	r.binders[p.Name] = r.depth
}

// under goes through expressions with one binder more.
func (r *resolver) under(name string, l []api.Expr) {
	outer := r.binders[name]
	r.depth++
	r.binders[name] = r.depth
	r.exprs(l)
	r.depth--
	r.binders[name] = outer
}
