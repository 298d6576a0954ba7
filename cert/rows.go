package cert

import (
	"maps"
	"slices"
	"strings"

	"avow/api"
	"avow/num"
	"avow/term"
)

// atMost: what a row says of two terms: the first less the second is at most a number.
type atMost struct {
	a, b *api.Term
	most int64
}

// sidesOf tells what the rows say that are the opposite of a literal; none, if it says nothing of numbers.
func sidesOf(l *api.Lit) []atMost {
	if len(l.Atom.L) != 2 {
		return nil
	}
	a, b := &l.Atom.L[0], &l.Atom.L[1]
	holds := l.Neg
	switch {
	case l.Atom.Op == api.TLe && holds:
		return []atMost{{a, b, 0}}
	case l.Atom.Op == api.TLe:
		return []atMost{{b, a, -1}}
	case l.Atom.Op == api.TLt && holds:
		return []atMost{{a, b, -1}}
	case l.Atom.Op == api.TLt:
		return []atMost{{b, a, 0}}
	case l.Atom.Op == api.TEq && holds && !isFormula(a) && !isFormula(b):
		return []atMost{{a, b, 0}, {b, a, 0}}
	}
	return nil
}

// isFormula tells whether t is one by its shape.
func isFormula(t *api.Term) bool {
	for under := 0; t.Op == api.TIte && len(t.L) > 0 && under < deepest; under++ {
		t = &t.L[len(t.L)-1]
	}
	return t.Op >= api.TTrue && t.Op <= api.TLt || t.Op == api.TAll
}

// row tells x as a row, and true; false, if it can't be told.
func (x atMost) row() (api.Lin, bool) {
	if !isSide(x.a) || !isSide(x.b) {
		return api.Lin{}, false
	}
	s := sum{names: map[string]num.Int{}, left: mostTerms}
	if !s.add(x.a, num.Of(1)) || !s.add(x.b, num.Of(-1)) {
		return api.Lin{}, false
	}
	return s.tell(num.Of(x.most))
}

const (
	// mostTerms: so many terms take more than 2^31 - 1 bytes. A small term can have more only by lists that it shares, each of them counted as often as it is come to; it is given up, so that every call ends soon.
	mostTerms = 1 << 25
	// deepestSide: of what lies deeper nothing is promised.
	deepestSide = 10000
	// mostDigits: products within one another that package term takes have no more digits. Greater ones would only take time, as hardly ever what is so many times there comes to nothing.
	mostDigits = api.MaxDepth * api.MaxDigits
)

// isSide tells whether t may be taken apart.
func isSide(t *api.Term) bool { return term.Depth(*t) <= deepestSide && term.Ground(*t) }

// sum: names, each so many times, and a number; and how many terms may still be added.
type sum struct {
	names map[string]num.Int
	alone num.Int
	left  int
}

// add adds a ground term, so many times; false, if it can't be told.
func (s *sum) add(t *api.Term, times num.Int) bool {
	s.left--
	switch {
	case s.left < 0:
		return false
	case t.Op == api.TNum:
		n, ok := numberOf(t)
		s.alone = s.alone.Add(n.Mul(times))
		return ok
	case t.Op == api.TAdd:
		return s.addAll(t.L, times)
	case t.Op == api.TSub && len(t.L) == 2:
		return s.add(&t.L[0], times) && s.add(&t.L[1], times.Neg())
	case t.Op == api.TNeg && len(t.L) == 1:
		return s.add(&t.L[0], times.Neg())
	case t.Op == api.TMul && len(t.L) == 2 && t.L[0].Op == api.TNum:
		n, ok := numberOf(&t.L[0])
		product := times.Mul(n)
		return ok && isShort(product.String(), mostDigits) && s.add(&t.L[1], product)
	}
	return s.addName(t, times)
}

func (s *sum) addAll(l []api.Term, times num.Int) bool {
	for i := range l {
		if !s.add(&l[i], times) {
			return false
		}
	}
	return true
}

func (s *sum) addName(t *api.Term, times num.Int) bool {
	// The Text of so great a term is too long; it isn't even made.
	if term.Size(*t) > api.MaxNodes {
		return false
	}
	name := term.Text(*t)
	s.names[name] = s.names[name].Add(times)
	return len(name) <= api.MaxKey
}

// numberOf tells the number of a TNum, and true; false, if it is none, or has too many digits.
func numberOf(t *api.Term) (num.Int, bool) {
	if !isShort(t.N, api.MaxDigits) {
		return num.Int{}, false
	}
	return num.Parse(t.N)
}

// isShort tells whether the text of a number has at most so many digits.
func isShort(n string, digits int) bool { return len(strings.TrimPrefix(n, "-")) <= digits }

// tell tells that s is at most a number, as a row; false, if a number has too many digits.
func (s *sum) tell(most num.Int) (api.Lin, bool) {
	out := api.Lin{K: most.Sub(s.alone).String()}
	ok := isShort(out.K, api.MaxDigits)
	for _, name := range slices.Sorted(maps.Keys(s.names)) {
		if s.names[name].Sign() == 0 {
			continue
		}
		n := s.names[name].String()
		ok = ok && isShort(n, api.MaxDigits)
		out.C = append(out.C, api.Coef{Name: name, N: n})
	}
	if !ok {
		return api.Lin{}, false
	}
	return out, true
}
