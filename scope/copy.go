package scope

import (
	"avow/api"
)

// most: the parameters and expressions that a program that was read can be made of, as each has a token of its own. Others are left off there, so that lists that contain themselves, or are shared, end.
const most = api.MaxText

// copier makes new memory of lists.
type copier struct {
	left int // so many parameters and expressions may still be copied
}

// copied tells the same declarations in new memory.
func copied(l []api.Decl) []api.Decl {
	c := copier{left: most}
	out := append([]api.Decl(nil), l...)
	for i := range out {
		d := &out[i]
		d.Params = c.params(d.Params)
		d.T.R = c.exprs(d.T.R)
		d.Requires = c.exprs(d.Requires)
		d.Ensures = c.exprs(d.Ensures)
		d.Measure = c.exprs(d.Measure)
		d.Body.L = c.exprs(d.Body.L)
	}
	return out
}

func (c *copier) params(l []api.Param) []api.Param {
	out := fitting(c, l)
	for i := range out {
		out[i].T.R = c.exprs(out[i].T.R)
	}
	return out
}

func (c *copier) exprs(l []api.Expr) []api.Expr {
	out := fitting(c, l)
	for i := range out {
		out[i].L = c.exprs(out[i].L)
	}
	return out
}

// fitting copies a list as far as c may still copy.
func fitting[T any](c *copier, l []T) []T {
	out := append([]T(nil), l[:min(len(l), c.left)]...)
	c.left -= len(out)
	return out
}
