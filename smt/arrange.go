package smt

import (
	"strings"

	"avow/api"
)

// arrangement: of numbers that functions are asked of: which of them are equal. It gives all terms values; where these aren't as equality has it, lines ask for more.
type arrangement struct{ *solver }

func (s arrangement) learn(c *candidate) bool {
	if c.refuted || c.unsure {
		return false
	}
	c.shape = newShape(c)
	if len(c.tooLong) > 0 {
		c.unsure = true
		return s.abbreviate(c)
	}
	equated := s.equate(c)
	parted := s.part(c)
	return equated || parted || s.compare(c)
}

// equate adds lines that say that numbers are equal that are by equality, and have unlike values.
func (s arrangement) equate(c *candidate) bool {
	added := false
	for i, id := range c.shape.ids {
		holder := c.shape.holder[c.shape.root(i)]
		if s.bank.entries[id].sort != api.SortInt || c.shape.value[i] == c.shape.value[holder] {
			continue
		}
		added = s.follow(c, c.shape.ids[holder], id) || added
	}
	return added
}

// follow adds a line that says that two are equal by what was asserted.
func (s arrangement) follow(c *candidate, a, b int) bool {
	eq, ok := s.equation(a, b)
	if !ok || s.isTold(c, eq) {
		return false
	}
	why, equal := c.closure.Explain(*s.bank.entries[a].term, *s.bank.entries[b].term)
	if !equal {
		return false
	}
	s.add(line{kind: api.LineEuf, clause: append(c.against(why), s.literal(eq))})
	s.ask(eq)
	return true
}

// isTold tells whether a formula was told to the theories.
func (s arrangement) isTold(c *candidate, id int) bool {
	literal := s.bank.entries[id].literal
	return literal > 0 && literal <= len(c.isTold) && c.isTold[literal-1]
}

// equation tells the equation of two terms, either way round, and true; false, if it would be too great.
func (s arrangement) equation(a, b int) (int, bool) {
	if id, ok := s.bank.find(api.TEq, b, a); ok {
		return id, true
	}
	return s.bank.made(api.TEq, a, b)
}

// ask has a formula decided from now on, and tells whether it wasn't.
func (s arrangement) ask(id int) bool {
	if _, ok := s.isOpen[id]; ok {
		return false
	}
	s.isOpen[id] = struct{}{}
	s.open = append(s.open, id)
	s.literal(id)
	return true
}

// part asks which number is less, where two have one value and aren't to be equal.
func (s arrangement) part(c *candidate) bool {
	added := false
	for _, literal := range c.asserted {
		x := s.atom(literal)
		if literal > 0 || x.op != api.TEq || !s.bank.isOfNumbers(x) {
			continue
		}
		if l := c.shape.values(x.parts); l[0] == l[1] {
			added = s.third(s.formula(literal)) || added
		}
	}
	return added
}

// third adds the line that says that two numbers are equal, or one of them is less; false, if there is one.
func (s arrangement) third(eq int) bool {
	if _, ok := s.thirds[eq]; ok {
		return false
	}
	parts := s.bank.entries[eq].parts
	less, fits := s.bank.made(api.TLt, parts[0], parts[1])
	more, fitsToo := s.bank.made(api.TLt, parts[1], parts[0])
	if !fits || !fitsToo {
		return false
	}
	s.thirds[eq] = [2]int{less, more}
	s.add(line{kind: api.LineTri, clause: s.literals([]int{eq, less, more}), terms: parts})
	return true
}

// compare asks whether operands are equal, where a function has two values of the same ones.
func (s arrangement) compare(c *candidate) bool {
	added := false
	firsts := map[string]int{}
	for i, id := range c.shape.ids {
		x := &s.bank.entries[id]
		if x.op != api.TApp || len(x.parts) == 0 {
			continue
		}
		key := x.name + " " + strings.Join(c.shape.values(x.parts), " ")
		first, ok := firsts[key]
		switch {
		case !ok:
			firsts[key] = i
		case c.shape.value[first] != c.shape.value[i]:
			added = s.askOperands(c, s.bank.entries[c.shape.ids[first]].parts, x.parts) || added
		}
	}
	return added
}

// askOperands asks whether those are equal, place by place, that have one value.
func (s arrangement) askOperands(c *candidate, l, m []int) bool {
	added := false
	for i := range l {
		if c.shape.class(l[i]) == c.shape.class(m[i]) {
			continue
		}
		eq, ok := s.equation(l[i], m[i])
		if !ok {
			continue
		}
		asked := s.ask(eq)
		added = s.third(eq) || asked || added
	}
	return added
}
