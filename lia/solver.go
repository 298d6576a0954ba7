package lia

import (
	"slices"

	"avow/api"
	"avow/num"
	"avow/rat"
)

// solver: rows, and what is known of them.
type solver struct {
	purse *purse
	names []string
	given int // so many facts, the first ones
	facts []fact
	sums  map[string]int // by texts: the quantities that are sums of several names and stay
	lp    *simplex
	point []num.Int // by names: whole numbers of which all rows hold, once they are found
}

// fact: a row that may be used: one that is given, a tighter one that it comes to in whole numbers, or a side of a split.
type fact struct {
	l sum
	k num.Int
	// from: of a tighter one the given one, which is l so many times; else none.
	from  int
	times num.Int
}

func newSolver(l []api.Lin, p *purse) *solver {
	s := &solver{purse: p, names: namesOf(l), given: len(l), sums: map[string]int{}}
	numbers := make(map[string]int, len(s.names))
	for i, name := range s.names {
		numbers[name] = i
	}
	for _, x := range l {
		parts := make([]part, len(x.C))
		for i, c := range x.C {
			n, _ := num.Parse(c.N)
			parts[i] = part{numbers[c.Name], n}
		}
		k, _ := num.Parse(x.K)
		s.add(fact{l: gather(parts), k: k, from: none})
	}
	s.lp = newSimplex(len(s.names), p)
	s.enter(func(l sum) bool { return len(l) == 1 })
	s.enter(func(l sum) bool { return len(l) > 1 })
	return s
}

// namesOf tells the names of rows, each once, in order of their bytes.
func namesOf(l []api.Lin) []string {
	var out []string
	for _, x := range l {
		for _, c := range x.C {
			out = append(out, c.Name)
		}
	}
	slices.Sort(out)
	return slices.Compact(out)
}

// add adds a fact, and tells its number.
func (s *solver) add(f fact) int {
	s.facts = append(s.facts, f)
	return len(s.facts) - 1
}

// enter makes bounds of those given rows. (Bounds of names come first: where nothing is led yet, a name's value is soon changed.)
func (s *solver) enter(isOne func(sum) bool) {
	for i := range s.given {
		if isOne(s.facts[i].l) {
			s.bind(i)
		}
	}
}

// bind makes a given row a bound of a quantity: of the sum that it is a multiple of. In whole numbers that is at most K by the factor, rounded down; where this is less, the bound is a tighter row's.
func (s *solver) bind(number int) {
	x := s.facts[number]
	times := x.l.common()
	l := x.l.by(times)
	k, left := x.k.Quo(times)
	if left.Sign() != 0 {
		number, times = s.add(fact{l, k, number, times}), num.Of(1)
	}
	// A sum and its opposite are one quantity, which has bounds above and below.
	up := l[0].n.Sign() > 0
	if !up {
		l, k = l.opposite(), k.Neg()
	}
	at := s.find(l)
	if at == none {
		at = s.lp.add(l)
		s.sums[l.text()] = at
	}
	b := bound{true, rat.Whole(k), number, times}
	if old := s.lp.bound(at, up); !old.set || up && b.value.Cmp(old.value) < 0 || !up && b.value.Cmp(old.value) > 0 {
		s.lp.setBound(at, up, b)
	}
}

// find tells the quantity of a sum of names, or none.
func (s *solver) find(l sum) int {
	if len(l) == 1 && isOne(l[0].n) {
		return l[0].at
	}
	if at, ok := s.sums[l.text()]; ok {
		return at
	}
	return none
}

// solve tells a verdict, and of Unsat what refutes the rows.
func (s *solver) solve() (int, *refuted) {
	for i, x := range s.facts[:s.given] {
		if len(x.l) == 0 && x.k.Sign() < 0 {
			return api.Unsat, s.leaf(single(i))
		}
	}
	verdict, r := s.search(s.byName())
	if verdict == api.Unknown && !s.purse.empty() {
		verdict, r = s.search(s.byWidth)
	}
	if verdict == api.Unsat {
		r = s.withTighter(r)
	}
	return verdict, r
}
