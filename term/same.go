package term

import (
	"slices"

	"avow/api"
)

// listPair: two lists that were held against each other.
type listPair struct{ a, b listKey }

// comparer keeps the pairs of lists that it found the same, for the sake of terms whose lists are shared.
type comparer struct {
	known map[listPair]struct{}
	steps int
}

func (c *comparer) terms(a, b *api.Term, under int) bool {
	x, y := view(a), view(b)
	if labelOf(x) != labelOf(y) {
		return false
	}
	if _, ok := x.(universal); ok {
		if !slices.Equal(a.Vars, b.Vars) || !c.lists(a.Pat, b.Pat, under+1) {
			return false
		}
	}
	return c.lists(a.L, b.L, under+1)
}

func (c *comparer) lists(a, b []api.Term, under int) bool {
	if len(a) != len(b) || under > deepest {
		return false
	}
	if len(a) == 0 || &a[0] == &b[0] {
		return true
	}
	if _, ok := c.known[listPair{keyOf(a), keyOf(b)}]; ok {
		return true
	}
	for i := range a {
		if !c.terms(&a[i], &b[i], under) {
			return false
		}
	}
	c.keep(a, b)
	return true
}

func (c *comparer) keep(a, b []api.Term) {
	c.steps += len(a)
	if c.steps < few {
		return
	}
	if c.known == nil {
		c.known = map[listPair]struct{}{}
	}
	c.known[listPair{keyOf(a), keyOf(b)}] = struct{}{}
}
