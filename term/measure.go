package term

import (
	"math"

	"avow/api"
)

// few: so many operands are gone through ahead of anything being kept: most terms are smaller, and go faster without.
const few = 1 << 16

// measures: of a term, or of a list of terms all together.
type measures struct {
	size, depth int
	ground      bool
}

// measurer keeps what it has measured: in a term whose lists are shared, they'd else be gone through once for each way to them.
type measurer struct {
	known   map[listKey]measures
	steps   int
	tooDeep bool
}

// measure tells t's measures. Of what goes deeper than deepest it tells a part's, deeper than any limit.
func measure(t *api.Term) measures {
	var m measurer
	return m.term(t, 0)
}

func (m *measurer) term(t *api.Term, under int) measures {
	out := m.list(t.L, under+1)
	out.size = capped(out.size, 1)
	out.depth++
	n := view(t)
	if _, ok := n.(variable); ok {
		out.ground = false
	}
	if _, ok := n.(universal); ok {
		out.ground = false
	}
	return out
}

func (m *measurer) list(l []api.Term, under int) measures {
	out := measures{ground: true}
	if len(l) == 0 {
		return out
	}
	if known, ok := m.known[keyOf(l)]; ok {
		return known
	}
	m.tooDeep = m.tooDeep || under > deepest
	for i := range l {
		if m.tooDeep {
			return out
		}
		one := m.term(&l[i], under)
		out.size = capped(out.size, one.size)
		out.depth = max(out.depth, one.depth)
		out.ground = out.ground && one.ground
	}
	m.keep(l, out)
	return out
}

func (m *measurer) keep(l []api.Term, of measures) {
	m.steps += len(l)
	if m.steps < few {
		return
	}
	if m.known == nil {
		m.known = map[listKey]measures{}
	}
	m.known[keyOf(l)] = of
}

// capped tells a and b together, or the greatest int, if that is less: sizes of terms with shared lists may be any.
func capped(a, b int) int {
	if a > math.MaxInt-b {
		return math.MaxInt
	}
	return a + b
}

// withinLimits tells whether t is too deep, or too great.
func withinLimits(t *api.Term) api.Errno {
	of := measure(t)
	switch {
	case of.depth > api.MaxDepth:
		return api.ErrTermDeep
	case of.size > api.MaxNodes:
		return api.ErrTermMany
	}
	return api.OK
}
