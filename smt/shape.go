package smt

import (
	"slices"
	"strconv"
	"strings"

	"avow/api"
	"avow/model"
)

const (
	// none: in place of a number, where there is none.
	none = -1
	// inPass: so many terms are gone through in a step.
	inPass = 8
)

// Classes of formulas: they are told by their truth.
const (
	classTrue = iota - 3
	classFalse
)

// shape: the terms of a candidate's literals: which of them are equal, and the values that they could have.
type shape struct {
	bank    *bank
	c       *candidate
	ids     []int       // the terms, operands ahead of what is made of them
	at      map[int]int // by terms: their places in ids
	up      []int       // by places: classes are trees; of the first of each: itself
	value   []string    // by places
	holder  []int       // by first places of classes: the place that told the class's number, or none
	objects int         // so many
	fresh   int         // so many numbers were made up
	prefix  string      // of those: no other number is as long
}

// newShape tells the shape of what the closure took.
func newShape(c *candidate) *shape {
	s := &shape{bank: c.solver.bank, c: c, at: map[int]int{}}
	for _, literal := range c.asserted {
		x := c.solver.atom(literal)
		switch x.op {
		case api.TEq, api.TLe, api.TLt:
			s.gatherAll(x.parts)
		default:
			s.gather(c.solver.formula(literal))
		}
	}
	slices.Sort(s.ids)
	for i, id := range s.ids {
		s.at[id] = i
		s.up = append(s.up, i)
		s.holder = append(s.holder, none)
	}
	s.value = make([]string, len(s.ids))
	s.join()
	s.tellNumbers()
	s.tellRest()
	return s
}

func (s *shape) gatherAll(ids []int) {
	for _, id := range ids {
		s.gather(id)
	}
}

// gather adds a term and all that stands in it, up to formulas.
func (s *shape) gather(id int) {
	if _, ok := s.at[id]; ok {
		return
	}
	s.at[id] = none
	s.ids = append(s.ids, id)
	if x := &s.bank.entries[id]; x.sort != api.SortBool || x.op == api.TApp {
		s.gatherAll(x.parts)
	}
}

// class tells the class of a term: the first place of it, or that of a truth.
func (s *shape) class(id int) int {
	x := &s.bank.entries[id]
	switch {
	case x.sort != api.SortBool:
		return s.root(s.at[id])
	case x.literal > 0 && s.c.truths[x.literal-1]:
		return classTrue
	}
	return classFalse
}

func (s *shape) root(at int) int {
	for s.up[at] != at {
		s.up[at] = s.up[s.up[at]]
		at = s.up[at]
	}
	return at
}

// union makes two places one class, and tells whether they weren't.
func (s *shape) union(a, b int) bool {
	a, b = s.root(a), s.root(b)
	s.up[max(a, b)] = min(a, b)
	return a != b
}

// join makes those equal that equations say are, and what is made alike of them.
func (s *shape) join() {
	for _, literal := range s.c.asserted {
		x := s.c.solver.atom(literal)
		if literal > 0 && x.op == api.TEq && !s.bank.isConnective(x) {
			s.union(s.at[x.parts[0]], s.at[x.parts[1]])
		}
	}
	for again := true; again; {
		s.c.solver.purse.spend(1 + len(s.ids)/inPass)
		again = s.joinMade()
	}
}

func (s *shape) joinMade() bool {
	joined := false
	firsts := map[string]int{}
	for i, id := range s.ids {
		x := &s.bank.entries[id]
		if len(x.parts) == 0 || x.sort == api.SortBool {
			continue
		}
		key := []int{x.op}
		for _, p := range x.parts {
			key = append(key, s.class(p))
		}
		text := x.name + keyOf(key)
		if first, ok := firsts[text]; ok {
			joined = s.union(first, i) || joined
		} else {
			firsts[text] = i
		}
	}
	return joined
}

// tellNumbers tells the values of numerals, and of those that are known by their rows.
func (s *shape) tellNumbers() {
	longest := 0
	for i, id := range s.ids {
		x := &s.bank.entries[id]
		if x.sort != api.SortInt {
			continue
		}
		if x.op == api.TNum {
			s.give(i, x.term.N)
		} else if number, ok := s.known(id); ok {
			s.give(i, number)
		}
		longest = max(longest, len(s.value[i]))
	}
	s.prefix = "1" + strings.Repeat("0", longest)
}

// known tells the number that package lia told of a name.
func (s *shape) known(id int) (string, bool) {
	at, ok := slices.BinarySearchFunc(s.c.numbers, shortName(id), func(x api.Coef, name string) int { return strings.Compare(x.Name, name) })
	if !ok {
		return "", false
	}
	return s.c.numbers[at].N, true
}

// give gives a place its number, and its class, if that has none.
func (s *shape) give(at int, number string) {
	s.value[at] = number
	if root := s.root(at); s.holder[root] == none {
		s.holder[root] = at
	}
}

// tellRest tells the values of all others, operands first.
func (s *shape) tellRest() {
	objects := map[int]int{}
	for i, id := range s.ids {
		x := &s.bank.entries[id]
		switch {
		case s.value[i] != "":
		case x.sort == api.SortBool:
			s.value[i] = strconv.FormatBool(s.class(id) == classTrue)
		case x.sort == api.SortObj:
			if _, ok := objects[s.root(i)]; !ok {
				objects[s.root(i)] = len(objects)
			}
			s.value[i] = "#" + strconv.Itoa(objects[s.root(i)])
		case x.op == api.TApp || x.op == api.TIte:
			s.give(i, s.nameWorth(i))
		default:
			s.give(i, s.sumWorth(x))
		}
	}
	s.objects = len(objects)
}

// nameWorth tells the number of a name's class; one that no other has, if there is none.
func (s *shape) nameWorth(at int) string {
	if holder := s.holder[s.root(at)]; holder != none {
		return s.value[holder]
	}
	s.fresh++
	return s.prefix + strconv.Itoa(s.fresh)
}

// sumWorth tells the number of TAdd, TSub, TNeg, TMul by those of their operands.
func (s *shape) sumWorth(x *entry) string {
	l := make([]api.Term, len(x.parts))
	for i, p := range x.parts {
		l[i] = api.Term{Op: api.TNum, N: s.value[s.at[p]]}
	}
	out, _ := model.Value(nil, api.Model{}, api.Term{Op: x.op, L: l})
	return out
}

// values tells the values of terms.
func (s *shape) values(ids []int) []string {
	out := make([]string, len(ids))
	for i, id := range ids {
		out[i] = s.value[s.at[id]]
	}
	return out
}
