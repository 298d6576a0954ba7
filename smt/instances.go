package smt

import (
	"avow/api"
	"avow/match"
	"avow/term"
)

const (
	// mostGround: package match takes ground terms of so many operators together.
	mostGround = 500
	// inInstance: so many operators of an instance are a step.
	inInstance = 4
)

// instances: formulas for all, the ground terms by which their patterns may be there, and what was made of them.
type instances struct {
	alls   []int               // those that stand where formulas stand
	made   map[int][]int       // by these: the formulas that were made of them
	tried  map[string]struct{} // by texts of these and terms for their variables
	apps   []int               // ground TApps of the formulas that are known
	byName map[string][]int    // the same
	within map[int]struct{}    // what stands within them
	met    map[int]struct{}    // terms that were gone through for them
}

func newInstances() *instances {
	return &instances{made: map[int][]int{}, tried: map[string]struct{}{}, byName: map[string][]int{}, within: map[int]struct{}{}, met: map[int]struct{}{}}
}

// collect adds the ground TApps of a formula, as term.Apps tells them.
func (w *instances) collect(b *bank, id int) {
	if _, ok := w.met[id]; ok {
		return
	}
	w.met[id] = struct{}{}
	x := b.entries[id]
	if x.op == api.TAll {
		return
	}
	for _, p := range x.parts {
		w.collect(b, p)
	}
	if x.op == api.TApp && x.ground {
		w.apps = append(w.apps, id)
		w.byName[x.name] = append(w.byName[x.name], id)
		w.cover(b, x.parts)
	}
}

// cover marks terms, and all that stands in them.
func (w *instances) cover(b *bank, ids []int) {
	for _, id := range ids {
		if _, ok := w.within[id]; !ok {
			w.within[id] = struct{}{}
			w.cover(b, b.entries[id].parts)
		}
	}
}

// outermost tells the ground TApps that stand within no other one, and their size; none, if they are too great together for package match.
func (w *instances) outermost(b *bank) ([]api.Term, int) {
	var out []api.Term
	size := 0
	for _, id := range w.apps {
		if _, ok := w.within[id]; ok {
			continue
		}
		size += b.entries[id].size
		if size > mostGround {
			return nil, 0
		}
		out = append(out, *b.entries[id].term)
	}
	return out, size
}

// instantiate makes a round: of all formulas for all it makes instances by the terms that were there ahead of it. It tells whether there are new ones.
func (s *solver) instantiate(c *candidate) bool {
	s.rounds--
	before := len(s.lines)
	for _, all := range s.instances.alls {
		s.matches(all)
	}
	s.matchesByEquations(c)
	for _, x := range s.lines[before:] {
		s.instances.collect(s.bank, s.formula(x.clause[1]))
	}
	return len(s.lines) > before
}

// matchesByEquations makes instances by terms that are equal to patterns, by the candidate's equations.
func (s *solver) matchesByEquations(c *candidate) {
	ground, size := s.instances.outermost(s.bank)
	var eq []api.Lit
	for _, literal := range c.told {
		if x := s.atom(literal); literal > 0 && x.op == api.TEq {
			eq = append(eq, s.told(literal))
			size += x.size
		}
	}
	for _, all := range s.instances.alls {
		t := s.bank.entries[all].term
		if len(ground) == 0 || isPlain(t) {
			continue
		}
		s.purse.spend(size)
		if s.purse.empty() {
			return
		}
		lists, _ := match.Find(*t, ground, eq)
		for _, l := range lists {
			s.instance(all, s.bank.lists[s.bank.list(l)])
		}
	}
}

// instance adds the line that says that a formula for all holds of these terms, if it is new, and package term takes it.
func (s *solver) instance(all int, by []int) {
	key := keyOf(append([]int{all}, by...))
	if _, ok := s.instances.tried[key]; ok || s.purse.empty() {
		return
	}
	s.instances.tried[key] = struct{}{}
	t := *s.bank.entries[all].term
	for i, id := range by {
		if s.bank.entries[id].sort != t.Vars[i].Sort {
			return
		}
	}
	made, e := term.Inst(t, s.bank.terms(by))
	if e != api.OK {
		return
	}
	id := s.bank.number(&made)
	s.purse.spend(1 + s.bank.entries[id].size/inInstance)
	// A pattern of a formula for all within it may have come to be none.
	if !s.bank.entries[id].ground {
		if _, e := term.Check(s.sig, made); e != api.OK {
			return
		}
	}
	s.instances.made[all] = append(s.instances.made[all], id)
	s.add(line{kind: api.LineInst, clause: []int{-s.literal(all), s.literal(id)}, terms: by})
}
