package scope_test

import (
	"slices"

	"avow/api"
)

// finding: what the chapter says of one place: an error; or, of an expression, its number.
type finding struct {
	e   *api.Expr
	i   int
	at  int
	err api.Errno
}

// plainly tells what Resolve must tell, by the chapter's words: for each name all that it may stand for is listed anew.
func plainly(l []api.Decl) ([]api.Decl, *api.PlaceError) {
	out := cloned(l)
	all := findings(out)
	for _, f := range all {
		if f.err != api.OK {
			return nil, &api.PlaceError{At: f.at, Err: f.err}
		}
	}
	for _, f := range all {
		f.e.I = f.i
	}
	return out, nil
}

// findings tells what is found, in the order of P17.1.
func findings(l []api.Decl) []finding {
	var out []finding
	for i := range l {
		d := &l[i]
		p := place{ahead: l[:i], called: l[:i]}
		if slices.Contains(namesOf(p.ahead, true, true), d.Name) {
			out = append(out, finding{at: d.At, err: api.ErrTwice})
		}
		if d.Rec {
			p.called = l[:i+1]
		}
		var params []string
		for j := range d.Params {
			q := &d.Params[j]
			if slices.Contains(params, q.Name) {
				out = append(out, finding{at: q.At, err: api.ErrTwice})
			}
			out = append(out, p.findings(q.T.R, params, q.T.Name)...)
			params = append(params, q.Name)
		}
		out = append(out, p.findings(d.Requires, params)...)
		out = append(out, p.findings(d.T.R, params, d.T.Name)...)
		ensures := p
		ensures.ensures = true
		out = append(out, ensures.findings(d.Ensures, params, d.Result)...)
		out = append(out, p.findings(d.Measure, params)...)
		out = append(out, p.findings(alone(&d.Body), params)...)
	}
	return out
}

// place: what is to be known where an expression stands.
type place struct {
	ahead, called []api.Decl // declarations ahead, and those of them that can be called
	ensures       bool
}

// findings tells what is found in expressions, with names of binders, the innermost last.
func (p place) findings(l []api.Expr, outer []string, inner ...string) []finding {
	binders := slices.Concat(outer, inner)
	inside := slices.Clone(binders)
	slices.Reverse(inside)
	var out []finding
	for i := range l {
		e := &l[i]
		switch e.Op {
		case api.EVar:
			out = append(out, found(e, inside))
		case api.EOld:
			if !p.ensures {
				out = append(out, finding{at: e.At, err: api.ErrOld})
			}
			out = append(out, found(e, namesOf(p.ahead, true, false)))
		case api.ERead, api.EWrite:
			out = append(out, found(e, namesOf(p.ahead, true, false)))
		case api.ECall:
			out = append(out, found(e, namesOf(p.called, false, true)))
		}
		for j := range e.L {
			if j == 1 && (e.Op == api.ELet || e.Op == api.ETry) {
				out = append(out, p.findings(e.L[j:j+1], binders, e.Name)...)
			} else {
				out = append(out, p.findings(e.L[j:j+1], binders)...)
			}
		}
	}
	return out
}

func found(e *api.Expr, names []string) finding {
	if i := slices.Index(names, e.Name); i >= 0 {
		return finding{e: e, i: i}
	}
	return finding{at: e.At, err: api.ErrName}
}

func namesOf(l []api.Decl, cells, defs bool) []string {
	var out []string
	for _, d := range l {
		if d.Cell && cells || !d.Cell && defs {
			out = append(out, d.Name)
		}
	}
	return out
}
