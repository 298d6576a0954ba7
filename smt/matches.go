package smt

import (
	"slices"

	"avow/api"
)

// matcher finds terms for the variables of a formula for all, under which its patterns are there as they stand: of any number of variables, and any number of terms, which package match doesn't take.
type matcher struct {
	solver *solver
	all    int
	places map[string]int // by names of variables
	list   []int          // by variables: a term, or none
	bound  []int          // the places of those that have one, in the order in which they got it
}

// matches makes instances of a formula for all, by the ground TApps that there are.
func (s *solver) matches(all int) {
	t := s.bank.entries[all].term
	m := &matcher{solver: s, all: all, places: make(map[string]int, len(t.Vars)), list: make([]int, len(t.Vars))}
	for i, v := range t.Vars {
		m.places[v.Name] = i
		m.list[i] = none
	}
	m.from(t.Pat)
}

// from goes on with these patterns.
func (m *matcher) from(patterns []api.Term) {
	if len(patterns) == 0 {
		m.solver.instance(m.all, slices.Clone(m.list))
		return
	}
	bound := len(m.bound)
	for _, id := range m.solver.instances.byName[patterns[0].Name] {
		m.solver.purse.spend(1 + len(patterns[0].L)/inTerm)
		if m.solver.purse.empty() {
			return
		}
		if m.fits(&patterns[0], id) {
			m.from(patterns[1:])
		}
		for _, at := range m.bound[bound:] {
			m.list[at] = none
		}
		m.bound = m.bound[:bound]
	}
}

// fits tells whether a pattern is the term, and binds its variables so.
func (m *matcher) fits(p *api.Term, id int) bool {
	if p.Op == api.TVar {
		return m.binds(p.Name, id)
	}
	x := &m.solver.bank.entries[id]
	if p.Op != x.op || len(p.L) != len(x.parts) || p.Op == api.TNum && p.N != x.term.N || p.Op == api.TApp && p.Name != x.name {
		return false
	}
	for i := range p.L {
		if !m.fits(&p.L[i], x.parts[i]) {
			return false
		}
	}
	return true
}

// binds binds a variable, unless it is bound to another term.
func (m *matcher) binds(name string, id int) bool {
	at := m.places[name]
	if m.list[at] == none {
		m.list[at] = id
		m.bound = append(m.bound, at)
	}
	return m.list[at] == id
}

// isPlain tells whether each variable stands once in the patterns, and alone: then equations find no more than the terms as they stand.
func isPlain(all *api.Term) bool {
	count := 0
	for _, p := range all.Pat {
		if slices.ContainsFunc(p.L, func(t api.Term) bool { return t.Op != api.TVar }) {
			return false
		}
		count += len(p.L)
	}
	return count == len(all.Vars)
}
