package cert

import (
	"math"
	"slices"

	"avow/api"
)

// mostCopied: an answer of at most 2^31 - 1 bytes has no more terms, as each takes over 100.
const mostCopied = math.MaxInt32 / 100

// added tells the clause that a line adds that was taken, in memory of its own; false, if that is more than an answer may be.
func added(given []api.Term, x *api.Line) ([]api.Lit, bool) {
	var c copier
	if x.Kind == api.LineInput {
		return []api.Lit{{Atom: c.term(&given[x.I])}}, !c.stopped()
	}
	out := make([]api.Lit, 0, len(x.Clause))
	for i := 0; i < len(x.Clause) && !c.stopped(); i++ {
		out = append(out, api.Lit{Neg: x.Clause[i].Neg, Atom: c.term(&x.Clause[i].Atom)})
	}
	return out, !c.stopped()
}

// copier makes terms anew, with nothing in fields that say nothing.
type copier struct{ copied int }

// stopped tells whether there was too much to be copied. Terms that were taken may be of any size by patterns that they share.
func (c *copier) stopped() bool { return c.copied > mostCopied }

func (c *copier) term(t *api.Term) api.Term {
	c.copied++
	out := api.Term{Op: t.Op, L: c.list(t.L)}
	switch t.Op {
	case api.TNum:
		out.N = t.N
	case api.TApp:
		out.Name = t.Name
	case api.TVar:
		out.Name, out.Sort = t.Name, t.Sort
	case api.TAll:
		c.copied += len(t.Vars)
		out.Vars, out.Pat = slices.Clone(t.Vars), c.list(t.Pat)
	}
	return out
}

func (c *copier) list(l []api.Term) []api.Term {
	if len(l) == 0 || c.stopped() {
		return nil
	}
	out := make([]api.Term, 0, len(l))
	for i := 0; i < len(l) && !c.stopped(); i++ {
		out = append(out, c.term(&l[i]))
	}
	return out
}
