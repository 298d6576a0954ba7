package lia

import (
	"slices"

	"avow/api"
	"avow/num"
	"avow/rat"
)

const (
	// deepest: a refutation may be as deep as so many splits within one another, and a sum.
	deepest = api.MaxDepth - 1
	// splitsByName, splitsOfName: so many splits, and so many more a name, are made at names, as long as that may be soon done.
	splitsByName = 10
	splitsOfName = 5
)

// choice: a sum of names to be split: at most k, or more; or, where there is no sum, a verdict.
type choice struct {
	l       sum
	k       num.Int
	verdict int
}

// search splits what is chosen, until sums refute all sides, or whole numbers are found.
func (s *solver) search(choose func() choice) (int, *refuted) {
	var split func(depth int) (int, *refuted)
	split = func(depth int) (int, *refuted) {
		if l := s.lp.repair(); l != nil {
			return api.Unsat, s.leaf(l)
		}
		if s.purse.empty() {
			return api.Unknown, nil
		}
		if s.isWhole() {
			return api.Sat, nil
		}
		c := choose()
		if len(c.l) == 0 {
			return c.verdict, nil
		}
		if depth == deepest || s.purse.empty() {
			return api.Unknown, nil
		}
		return s.both(c, func() (int, *refuted) { return split(depth + 1) })
	}
	return split(0)
}

// both tries the sides of a split. What refutes one of them and doesn't use that it is that side refutes the other one, too.
func (s *solver) both(c choice, try func() (int, *refuted)) (int, *refuted) {
	at := s.find(c.l)
	if at == none {
		at = s.lp.add(c.l)
		defer s.lp.drop()
	}
	out := &refuted{}
	for _, up := range []bool{true, false} {
		f, k := fact{l: c.l, k: c.k, from: none}, c.k
		if !up {
			f, k = f.opposite(), c.k.Add(num.Of(1))
		}
		side := s.add(f)
		old := s.lp.bound(at, up)
		s.lp.setBound(at, up, bound{true, rat.Whole(k), side, num.Of(1)})
		verdict, r := try()
		s.lp.setBound(at, up, old)
		if verdict != api.Unsat || !slices.Contains(r.uses, side) {
			return verdict, r
		}
		out.add(side, r)
	}
	return api.Unsat, out
}

// isWhole tells whether the values of all names are whole numbers, and keeps them, if they are.
func (s *solver) isWhole() bool {
	if s.fraction() != none {
		return false
	}
	s.point = make([]num.Int, len(s.names))
	for at := range s.point {
		s.point[at] = s.lp.value[at].Top()
	}
	return true
}

// fraction tells the first name whose value is no whole number, or none.
func (s *solver) fraction() int {
	s.purse.spend(len(s.names))
	return slices.IndexFunc(s.lp.value[:len(s.names)], func(x rat.Rat) bool { return !x.IsWhole() })
}

// byName tells what chooses the first name whose value is no whole number, as long as that may be soon done.
func (s *solver) byName() func() choice {
	left := splitsByName + splitsOfName*len(s.names)
	return func() choice {
		if left == 0 {
			return choice{}
		}
		left--
		at := s.fraction()
		return choice{l: single(at), k: s.lp.value[at].Floor()}
	}
}
