package lia

import (
	"slices"

	"avow/api"
)

// mostTimes: a sum's numbers have at most so many digits.
const mostTimes = 4 * api.MaxDigits

// numbers tells the numbers that were found.
func (s *solver) numbers() []api.Coef {
	out := make([]api.Coef, len(s.names))
	for i, name := range s.names {
		out[i] = api.Coef{Name: name, N: s.point[i].String()}
	}
	return out
}

// tell tells what refutes the rows and, behind them, those sides of splits, as chapter 10 takes it, and true; false, if it is too deep, or its numbers are too long.
func (s *solver) tell(r *refuted, path []int) (api.Farkas, bool) {
	if len(r.sides) == 0 {
		return s.tellSum(r.sum, path)
	}
	if len(path) == deepest {
		return api.Farkas{}, false
	}
	out := api.Farkas{Split: true, L: make([]api.Farkas, len(r.sides))}
	for i, side := range r.sides {
		row, isRow := s.tellRow(s.facts[side])
		f, ok := s.tell(r.l[i], append(path, side))
		if !isRow || !ok {
			return api.Farkas{}, false
		}
		if i == 0 {
			out.Row = row
		}
		out.L[i] = f
	}
	return out, true
}

// tellSum tells how many times each row is taken, as far as there is one that is.
func (s *solver) tellSum(l sum, path []int) (api.Farkas, bool) {
	var out api.Farkas
	for _, p := range l {
		at := p.at
		if at >= s.given {
			at = s.given + slices.Index(path, at)
		}
		for len(out.Sum) <= at {
			out.Sum = append(out.Sum, "0")
		}
		out.Sum[at] = p.n.String()
		if len(out.Sum[at]) > mostTimes {
			return api.Farkas{}, false
		}
	}
	return out, true
}

// tellRow tells a fact as a row, and true; false, if its numbers are too long.
func (s *solver) tellRow(f fact) (api.Lin, bool) {
	out := api.Lin{K: f.k.String(), C: make([]api.Coef, len(f.l))}
	ok := isShort(out.K)
	for i, p := range f.l {
		out.C[i] = api.Coef{Name: s.names[p.at], N: p.n.String()}
		ok = ok && isShort(out.C[i].N)
	}
	return out, ok
}
