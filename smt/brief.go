package smt

import (
	"slices"

	"avow/api"
	"avow/cert"
	"avow/term"
)

// isTellable tells whether package cert can tell a literal as rows.
func (s *solver) isTellable(literal int) bool {
	_, ok := cert.Rows([]api.Lit{s.told(-literal)})
	return ok
}

// hasBriefer tells whether another one of told says what a literal does, with shorter names.
func (c *candidate) hasBriefer(literal int) bool {
	isOpen := func(premise int) bool {
		at := max(premise, -premise) - 1
		return !c.isTold[at] || c.truths[at] != (premise > 0)
	}
	return slices.ContainsFunc(c.solver.briefs[literal], func(premises []int) bool { return !slices.ContainsFunc(premises, isOpen) })
}

// abbreviate adds lines that say the same as literals whose names are too long for package cert: with terms that are equal to these, and shorter.
func (s arrangement) abbreviate(c *candidate) bool {
	added := false
	for _, literal := range c.tooLong {
		if s.isTellable(literal) {
			continue
		}
		x := s.atom(literal)
		op, parts := x.op, x.parts
		left, found := c.shape.brief(parts[0], nil)
		right, foundToo := c.shape.brief(parts[1], nil)
		// An equation of one and the same would say nothing of what is too long.
		if found && foundToo && (left != right || op != api.TEq) {
			added = s.replace(c, literal, left, right) || added
		}
	}
	return added
}

// replace adds the line that says that a literal holds of these two, as it does of its own sides.
func (s arrangement) replace(c *candidate, literal, left, right int) bool {
	x := s.atom(literal)
	id, ok := s.bank.made(x.op, left, right)
	if !ok {
		return false
	}
	x = s.atom(literal)
	var premises []int
	for i, side := range []int{left, right} {
		why, equal := c.closure.Explain(*s.bank.entries[x.parts[i]].term, *s.bank.entries[side].term)
		if !equal {
			return false
		}
		premises = append(premises, opposites(c.against(why))...)
	}
	by := s.literal(id)
	if literal < 0 {
		by = -by
	}
	s.add(line{kind: api.LineEuf, clause: append(opposites(premises), -literal, by)})
	s.ask(id)
	s.briefs[literal] = append(s.briefs[literal], premises)
	return true
}

// brief tells a number that is equal to this one, and has no names that are too long, and true; false, if there is none. Terms of above aren't asked again.
func (s *shape) brief(id int, above []int) (int, bool) {
	x := s.bank.entries[id]
	switch {
	case x.op == api.TNum:
		return id, true
	case x.op >= api.TAdd && x.op <= api.TMul:
		return s.briefSum(x, above)
	case x.size <= api.MaxKey && len(term.Text(*x.term)) <= api.MaxKey:
		return id, true
	}
	for _, other := range s.ids {
		s.c.solver.purse.spend(1)
		if s.c.solver.purse.empty() {
			break
		}
		if other == id || slices.Contains(above, other) || s.bank.entries[other].sort != api.SortInt || s.class(other) != s.class(id) {
			continue
		}
		if out, ok := s.brief(other, append(above[:len(above):len(above)], id, other)); ok {
			return out, true
		}
	}
	return 0, false
}

func (s *shape) briefSum(x entry, above []int) (int, bool) {
	parts := make([]int, len(x.parts))
	for i, p := range x.parts {
		if slices.Contains(above, p) {
			return 0, false
		}
		var ok bool
		if parts[i], ok = s.brief(p, above); !ok {
			return 0, false
		}
	}
	return s.bank.made(x.op, parts...)
}
