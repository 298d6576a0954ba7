package cert_test

import (
	"maps"
	"math/big"
	"slices"
	"strings"

	"avow/api"
	"avow/euf"
	"avow/farkas"
	"avow/term"
)

// plainRows: P12.2's words, one by one, without anything kept.
func plainRows(c []api.Lit) ([]api.Lin, bool) {
	var out []api.Lin
	right := true
	add := func(a, b api.Term, most int64) {
		row, ok := plainRow(a, b, most)
		right = right && ok
		out = append(out, row)
	}
	for _, l := range c {
		if len(l.Atom.L) != 2 {
			continue
		}
		a, b := l.Atom.L[0], l.Atom.L[1]
		switch {
		case l.Atom.Op == api.TLe && l.Neg:
			add(a, b, 0)
		case l.Atom.Op == api.TLt && l.Neg:
			add(a, b, -1)
		case l.Atom.Op == api.TLe:
			add(b, a, -1)
		case l.Atom.Op == api.TLt:
			add(b, a, 0)
		case l.Atom.Op == api.TEq && l.Neg && !shapedFormula(a) && !shapedFormula(b):
			add(a, b, 0)
			add(b, a, 0)
		}
	}
	if !right {
		return nil, false
	}
	return out, true
}

// shapedFormula: chapter 5's words.
func shapedFormula(t api.Term) bool {
	switch t.Op {
	case api.TIte:
		return len(t.L) > 0 && shapedFormula(t.L[len(t.L)-1])
	case api.TTrue, api.TFalse, api.TNot, api.TAnd, api.TOr, api.TImp, api.TIff, api.TEq, api.TLe, api.TLt, api.TAll:
		return true
	}
	return false
}

func plainRow(a, b api.Term, most int64) (api.Lin, bool) {
	s := plainSum{map[string]*big.Int{}, new(big.Int), term.Ground(a) && term.Ground(b)}
	s.add(a, big.NewInt(1))
	s.add(b, big.NewInt(-1))
	out := api.Lin{K: new(big.Int).Sub(big.NewInt(most), s.alone).String()}
	s.right = s.right && digits(out.K) <= 400
	for _, name := range slices.Sorted(maps.Keys(s.names)) {
		if n := s.names[name].String(); n != "0" {
			out.C = append(out.C, api.Coef{Name: name, N: n})
			s.right = s.right && digits(n) <= 400
		}
	}
	return out, s.right
}

func digits(n string) int { return len(strings.TrimPrefix(n, "-")) }

type plainSum struct {
	names map[string]*big.Int
	alone *big.Int
	right bool
}

func (s *plainSum) number(n string) *big.Int {
	out, ok := new(big.Int).SetString(n, 10)
	if !ok || out.String() != n || digits(n) > 400 {
		s.right = false
		return new(big.Int)
	}
	return out
}

func (s *plainSum) add(t api.Term, times *big.Int) {
	minus := new(big.Int).Neg(times)
	switch {
	case t.Op == api.TNum:
		s.alone.Add(s.alone, new(big.Int).Mul(times, s.number(t.N)))
	case t.Op == api.TAdd:
		for _, x := range t.L {
			s.add(x, times)
		}
	case t.Op == api.TSub && len(t.L) == 2:
		s.add(t.L[0], times)
		s.add(t.L[1], minus)
	case t.Op == api.TNeg && len(t.L) == 1:
		s.add(t.L[0], minus)
	case t.Op == api.TMul && len(t.L) == 2 && t.L[0].Op == api.TNum:
		s.add(t.L[1], new(big.Int).Mul(times, s.number(t.L[0].N)))
	default:
		name := term.Text(t)
		s.right = s.right && len(name) <= 200
		if s.names[name] == nil {
			s.names[name] = new(big.Int)
		}
		s.names[name].Add(s.names[name], times)
	}
}

// plainly: P12.1's words, one by one: whether a line is taken; follows tells whether a clause follows from those ahead.
func plainly(sig []api.Fun, l []api.Term, x api.Line, follows func([]api.Lit) bool) bool {
	sortOf := func(t api.Term) int {
		sort, _ := term.Check(sig, t)
		return sort
	}
	is := func(l api.Lit, neg bool, t api.Term) bool { return l.Neg == neg && term.Same(l.Atom, t) }
	for _, l := range x.Clause {
		if sortOf(l.Atom) != bools {
			return false
		}
	}
	c := x.Clause
	switch x.Kind {
	case api.LineInput:
		return x.I >= 0 && x.I < len(l) && sortOf(l[x.I]) == bools
	case api.LineTaut:
		return plainTaut(c)
	case api.LineInst:
		if len(c) != 2 || !c[0].Neg || c[0].Atom.Op != api.TAll || len(c[0].Atom.Vars) != len(x.Terms) {
			return false
		}
		for i, v := range c[0].Atom.Vars {
			if !term.Ground(x.Terms[i]) || sortOf(x.Terms[i]) != v.Sort {
				return false
			}
		}
		made, e := term.Inst(c[0].Atom, x.Terms)
		return e == api.OK && is(c[1], false, made)
	case api.LineEuf:
		return !slices.ContainsFunc(c, func(l api.Lit) bool { return !term.Ground(l.Atom) }) && euf.Valid(c)
	case api.LineLia:
		rows, ok := plainRows(c)
		return ok && farkas.Check(rows, x.F) == api.OK
	case api.LineIte:
		if len(x.Terms) != 1 || len(c) != 2 || x.Terms[0].Op != api.TIte || !term.Ground(x.Terms[0]) {
			return false
		}
		t := x.Terms[0]
		if sort := sortOf(t); sort != ints && sort != objs {
			return false
		}
		return is(c[0], true, t.L[0]) && is(c[1], false, same(t, t.L[1])) || is(c[0], false, t.L[0]) && is(c[1], false, same(t, t.L[2]))
	case api.LineTri:
		if len(x.Terms) != 2 || len(c) != 3 {
			return false
		}
		a, b := x.Terms[0], x.Terms[1]
		return term.Ground(a) && term.Ground(b) && sortOf(a) == ints && sortOf(b) == ints && is(c[0], false, same(a, b)) && is(c[1], false, less(a, b)) && is(c[2], false, less(b, a))
	case api.LineRup:
		return follows(c)
	}
	return false
}

// opposites tells whether x is y's opposite.
func opposites(x, y api.Lit) bool { return x.Neg != y.Neg && term.Same(x.Atom, y.Atom) }

func plainTaut(c []api.Lit) bool {
	for i := range c {
		for k := range i {
			if opposites(c[i], c[k]) {
				return true
			}
		}
	}
	return len(c) > 0 && plainWorth(c[0].Atom, c[1:]) == map[bool]string{false: "true", true: "false"}[c[0].Neg]
}

// plainWorth tells true, false, or nothing: what t is by its connective, all of others being false.
func plainWorth(t api.Term, others []api.Lit) string {
	var l []string
	for _, x := range t.L {
		told := map[int]string{api.TTrue: "true", api.TFalse: "false"}[x.Op]
		for _, o := range others {
			if term.Same(o.Atom, x) {
				told = map[bool]string{true: "true", false: "false"}[o.Neg]
			}
		}
		l = append(l, told)
	}
	if t.Op == api.TImp {
		l[0] = map[string]string{"true": "false", "false": "true"}[l[0]]
	}
	some := func(x string) bool { return slices.Contains(l, x) }
	switch t.Op {
	case api.TTrue:
		return "true"
	case api.TFalse:
		return "false"
	case api.TNot:
		return map[string]string{"true": "false", "false": "true"}[l[0]]
	case api.TAnd:
		switch {
		case some("false"):
			return "false"
		case !some(""):
			return "true"
		}
	case api.TOr, api.TImp:
		switch {
		case some("true"):
			return "true"
		case !some(""):
			return "false"
		}
	case api.TIff, api.TEq:
		if !some("") {
			return map[bool]string{true: "true", false: "false"}[l[0] == l[1]]
		}
	case api.TIte:
		switch {
		case l[0] == "true":
			return l[1]
		case l[0] == "false":
			return l[2]
		case l[1] == l[2]:
			return l[1]
		}
	}
	return ""
}

// plainNumbers gives atoms numbers from 1 on, by holding them against each other one by one.
type plainNumbers struct{ atoms []api.Term }

func (n *plainNumbers) clause(c []api.Lit) []int {
	out := []int{}
	for _, l := range c {
		at := slices.IndexFunc(n.atoms, func(t api.Term) bool { return term.Same(t, l.Atom) })
		if at < 0 {
			at = len(n.atoms)
			n.atoms = append(n.atoms, l.Atom)
		}
		out = append(out, map[bool]int{false: at + 1, true: -at - 1}[l.Neg])
	}
	return out
}

// plainFollows: chapter 7's words.
func plainFollows(have [][]int, c []int) bool {
	known := map[int]bool{} // what is true
	for _, x := range c {
		if known[x] {
			return true
		}
		known[-x] = true
	}
	for again := true; again; {
		again = false
		for _, clause := range have {
			open := map[int]bool{}
			for _, x := range clause {
				if !known[-x] {
					open[x] = true
				}
			}
			if len(open) == 0 {
				return true
			}
			for x := range open {
				if len(open) == 1 && !known[x] {
					known[x], again = true, true
				}
			}
		}
	}
	return false
}

// plainCheck: P12.3's words.
func plainCheck(sig []api.Fun, l []api.Term, c []api.Line) (int, api.Errno) {
	var n plainNumbers
	var have [][]int
	empty := false
	for i, x := range c {
		follows := func(c []api.Lit) bool { return plainFollows(have, n.clause(c)) }
		if !plainly(sig, l, x, follows) {
			return i, api.ErrCertLine
		}
		clause := x.Clause
		if x.Kind == api.LineInput {
			clause = lits(pos(l[x.I]))
		}
		have = append(have, n.clause(clause))
		empty = empty || len(clause) == 0
	}
	if empty {
		return len(c), api.OK
	}
	return len(c), api.ErrCertEnd
}

// plainLine: P12.1's words, with the clauses ahead.
func plainLine(sig []api.Fun, l []api.Term, have [][]api.Lit, x api.Line) bool {
	return plainly(sig, l, x, func(c []api.Lit) bool {
		var n plainNumbers
		var ahead [][]int
		for _, clause := range have {
			ahead = append(ahead, n.clause(clause))
		}
		return plainFollows(ahead, n.clause(c))
	})
}
