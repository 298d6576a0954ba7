package term

import (
	"math"
	"slices"

	"avow/api"
)

// mostCopied: an answer of at most 2^31 - 1 bytes has no more terms, as each takes over 100; beyond that a copier stops.
const mostCopied = math.MaxInt32 / 100

// slot: what stands for a name, its measures, and how many TAlls around bind the name anew.
type slot struct {
	by     *api.Term
	of     measures
	hidden int
}

// slots: by names.
type slots map[string]*slot

// newSlots tells the slots of vars, of which there are as many as of l: of several of one name the first one counts.
func newSlots(vars []api.Bound, l []api.Term) slots {
	out := make(slots, len(vars))
	for i, v := range vars {
		if out[v.Name] == nil {
			out[v.Name] = &slot{by: &l[i], of: measure(&l[i])}
		}
	}
	return out
}

// of tells the slot that n is to be replaced by, or nil.
func (s slots) of(n node) *slot {
	if x, ok := n.(variable); ok {
		if found := s[x.Name]; found != nil && found.hidden == 0 {
			return found
		}
	}
	return nil
}

// hide tells s that a TAll with vars is gone into (1), or left (-1).
func (s slots) hide(vars []api.Bound, by int) {
	for _, v := range vars {
		if found := s[v.Name]; found != nil {
			found.hidden += by
		}
	}
}

// fill tells body with the variables of s replaced.
func fill(body *api.Term, s slots) (api.Term, api.Errno) {
	w := weigher{slots: s}
	w.term(body, 1)
	switch {
	case w.size > api.MaxNodes:
		return api.Term{}, api.ErrTermMany
	case w.depth > api.MaxDepth:
		return api.Term{}, api.ErrTermDeep
	}
	c := copier{slots: s}
	out := c.term(body, 0)
	if c.stopped {
		return api.Term{}, api.ErrTermMany
	}
	return out, api.OK
}

// weigher: the size and the depth of what a copier would make, ahead of its being made. It stops at a size that is too great, so that shared lists are no matter.
type weigher struct {
	slots       slots
	size, depth int
}

func (w *weigher) term(t *api.Term, level int) {
	n := view(t)
	if s := w.slots.of(n); s != nil {
		w.size = capped(w.size, s.of.size)
		w.depth = max(w.depth, level-1+s.of.depth)
		return
	}
	w.size++
	w.depth = max(w.depth, level)
	x, binds := n.(universal)
	if binds {
		w.slots.hide(x.Vars, 1)
	}
	for i := 0; i < len(t.L) && w.size <= api.MaxNodes; i++ {
		w.term(&t.L[i], level+1)
	}
	if binds {
		w.slots.hide(x.Vars, -1)
	}
}

// copier makes terms anew, in memory of their own, with nothing in fields that say nothing.
type copier struct {
	slots   slots // what is replaced
	copied  int
	stopped bool
}

func (c *copier) term(t *api.Term, under int) api.Term {
	n := view(t)
	if s := c.slots.of(n); s != nil {
		return c.asItStands(s.by, under)
	}
	out := labelOf(n).bare()
	x, binds := n.(universal)
	if binds {
		c.copied += len(x.Vars)
		out.Vars = slices.Clone(x.Vars)
		c.slots.hide(x.Vars, 1)
		out.Pat = c.list(x.Pat, under+1)
	}
	out.L = c.list(t.L, under+1)
	if binds {
		c.slots.hide(x.Vars, -1)
	}
	return out
}

// asItStands copies t with nothing replaced in it.
func (c *copier) asItStands(t *api.Term, under int) api.Term {
	replaced := c.slots
	c.slots = nil
	out := c.term(t, under)
	c.slots = replaced
	return out
}

func (c *copier) list(l []api.Term, under int) []api.Term {
	c.copied += len(l)
	c.stopped = c.stopped || c.copied > mostCopied || under > deepest
	if c.stopped || len(l) == 0 {
		return nil
	}
	out := make([]api.Term, len(l))
	for i := 0; i < len(l) && !c.stopped; i++ {
		out[i] = c.term(&l[i], under)
	}
	return out
}
