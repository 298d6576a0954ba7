package smt

import "avow/api"

// inner: what stands within an atom and has to be told ahead of it: formulas that are operands of functions, and choices.
type inner struct{ formulas, choices []int }

// choice: of a TIte that is no formula: what it asks, and the equations that say what it is.
type choice struct{ asked, then, other int }

// worth: of an equation that is an operand of a function: the equations that say that it is TTrue, or TFalse. For package euf doesn't tell such an operand by its sides.
type worth struct{ yes, no int }

// define adds the lines that say what formulas are that are new.
func (s *solver) define() {
	for ; s.defined < len(s.formulas); s.defined++ {
		id := s.formulas[s.defined]
		x := s.bank.entries[id]
		switch {
		case s.bank.isConnective(&x):
			s.sayConnective(x.literal, x.op, s.literals(x.parts))
		case x.op == api.TAll:
			s.instances.alls = append(s.instances.alls, id)
		case x.ground:
			s.sayWithin(id)
		}
	}
}

// sayConnective says that a literal is so by those of its operands.
func (s *solver) sayConnective(own, op int, l []int) {
	switch op {
	case api.TTrue:
		s.taut(own)
	case api.TFalse:
		s.taut(-own)
	case api.TNot:
		s.taut(own, l[0])
		s.taut(-own, -l[0])
	case api.TAnd:
		s.sayAll(own, l)
	case api.TOr:
		s.sayAll(-own, opposites(l))
	case api.TImp:
		s.sayAll(-own, []int{l[0], -l[1]})
	case api.TIff, api.TEq:
		s.sayChoice(own, l[0], l[1], -l[1])
	case api.TIte:
		s.sayChoice(own, l[0], l[1], l[2])
	}
}

// taut adds a line that holds by the connective of its first literal.
func (s *solver) taut(clause ...int) { s.add(line{kind: api.LineTaut, clause: clause}) }

// sayAll says that a literal is true just if all of l are.
func (s *solver) sayAll(own int, l []int) {
	for _, x := range l {
		s.taut(-own, x)
	}
	s.taut(append([]int{own}, opposites(l)...)...)
}

// sayChoice says that a literal is then, if asked, and else other.
func (s *solver) sayChoice(own, asked, then, other int) {
	s.taut(-own, -asked, then)
	s.taut(-own, asked, other)
	s.taut(own, -asked, -then)
	s.taut(own, asked, -other)
}

func opposites(l []int) []int {
	out := make([]int, len(l))
	for i, x := range l {
		out[i] = -x
	}
	return out
}

// sayWithin adds lines for what stands within an atom.
func (s *solver) sayWithin(id int) {
	var in inner
	seen := map[int]struct{}{}
	var visit func(parts []int)
	visit = func(parts []int) {
		for _, p := range parts {
			if _, ok := seen[p]; ok {
				continue
			}
			seen[p] = struct{}{}
			x := s.bank.entries[p]
			switch {
			case x.sort == api.SortBool:
				s.operand(p)
				in.formulas = append(in.formulas, p)
			case x.op == api.TIte:
				if s.choose(p) {
					in.choices = append(in.choices, p)
				}
				visit(x.parts[1:])
			default:
				visit(x.parts)
			}
		}
	}
	visit(s.bank.entries[id].parts)
	if len(in.formulas)+len(in.choices) > 0 {
		s.inner[id] = in
	}
}

// operand makes a formula that is an operand one that is asked for.
func (s *solver) operand(id int) {
	s.literal(id)
	if _, ok := s.worths[id]; ok || s.bank.entries[id].op != api.TEq {
		return
	}
	yes, fits := s.bank.made(api.TEq, id, s.bank.number(&api.Term{Op: api.TTrue}))
	no, fitsToo := s.bank.made(api.TEq, id, s.bank.number(&api.Term{Op: api.TFalse}))
	if fits && fitsToo {
		s.literals([]int{yes, no})
		s.worths[id] = worth{yes, no}
	}
}

// choose adds the lines that say what a TIte is; false, if they would be too great.
func (s *solver) choose(id int) bool {
	if _, ok := s.choices[id]; ok {
		return true
	}
	parts := s.bank.entries[id].parts
	asked := s.literal(parts[0])
	then, fits := s.bank.made(api.TEq, id, parts[1])
	other, fitsToo := s.bank.made(api.TEq, id, parts[2])
	if !fits || !fitsToo {
		return false
	}
	s.choices[id] = choice{parts[0], then, other}
	s.add(line{kind: api.LineIte, clause: []int{-asked, s.literal(then)}, terms: []int{id}})
	s.add(line{kind: api.LineIte, clause: []int{asked, s.literal(other)}, terms: []int{id}})
	return true
}
