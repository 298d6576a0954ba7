package smt

import (
	"slices"
	"strconv"
	"strings"

	"avow/api"
	"avow/cert"
	"avow/lia"
	"avow/term"
)

const (
	// firstRows: so many steps are given to package lia at first; and so many at last.
	firstRows = 64
	mostRows  = 1 << 18
	// mostRefuted: so many lines are added at most at a time.
	mostRefuted = 8
)

// arithmetic: of sums of numbers.
type arithmetic struct {
	*solver
	rows map[int][]api.Lin // by literals
}

func (s *arithmetic) learn(c *candidate) bool {
	told := slices.DeleteFunc(slices.Clone(c.told), func(literal int) bool { return !s.isOfRows(literal) || c.hasBriefer(literal) })
	added := false
	for range mostRefuted {
		l, from := s.rowsOf(told)
		verdict, numbers, f := s.solve(l)
		c.numbers, c.unsure = numbers, verdict == api.Unknown
		if verdict != api.Unsat {
			break
		}
		x, ok := s.refutation(told, from, f)
		if !ok {
			c.tooLong = opposites(x.clause)
			break
		}
		s.add(x)
		// Without the one that is too many, the others may show more.
		last := -x.clause[len(x.clause)-1]
		told = slices.DeleteFunc(told, func(literal int) bool { return literal == last })
		added = true
	}
	return added
}

// isOfRows tells whether a literal says something of numbers.
func (s *arithmetic) isOfRows(literal int) bool {
	x := s.atom(literal)
	return x.ground && s.bank.isOfNumbers(x)
}

// rowsOf tells the rows that literals say, and of each the place of its literal.
func (s *arithmetic) rowsOf(told []int) ([]api.Lin, []int) {
	var out []api.Lin
	var from []int
	for i, literal := range told {
		l, ok := s.rows[literal]
		if !ok {
			x := s.atom(literal)
			// Package cert tells what the opposite of a clause says.
			l, _ = cert.Rows([]api.Lit{{Neg: literal > 0, Atom: api.Term{Op: x.op, L: s.bank.sums(x.parts)}}})
			s.rows[literal] = l
		}
		for range l {
			from = append(from, i)
		}
		out = append(out, l...)
	}
	return out, from
}

// sums tells numbers as sums of constants with short names: so rows have names, however long the Texts are of what they stand for.
func (b *bank) sums(ids []int) []api.Term {
	out := make([]api.Term, len(ids))
	for i, id := range ids {
		switch x := &b.entries[id]; {
		case x.op == api.TNum:
			out[i] = *x.term
		case x.op >= api.TAdd && x.op <= api.TMul:
			out[i] = api.Term{Op: x.op, L: b.sums(x.parts)}
		default:
			out[i] = api.Term{Op: api.TApp, Name: shortName(id)}
		}
	}
	return out
}

// shortName tells the name of a term in rows.
func shortName(id int) string { return "n" + strconv.Itoa(id) }

// solve decides rows.
func (s *arithmetic) solve(l []api.Lin) (int, []api.Coef, api.Farkas) {
	if len(l) == 0 {
		return api.Sat, nil, api.Farkas{}
	}
	for limit := firstRows; limit <= mostRows; limit *= moreLimit {
		s.purse.spend(limit)
		if s.purse.empty() {
			break
		}
		if verdict, numbers, f, _ := lia.Solve(l, limit); verdict != api.Unknown {
			return verdict, numbers, f
		}
	}
	return api.Unknown, nil, api.Farkas{}
}

// refutation tells the line that says that those literals can't all be whose rows f uses; false, if package cert can't tell their rows.
func (s *arithmetic) refutation(told, from []int, f api.Farkas) (line, bool) {
	used := make([]bool, len(told))
	eachUsed(f, len(from), func(row int) { used[from[row]] = true })
	var clause []int
	var real []api.Lit
	for i, literal := range told {
		if used[i] {
			clause = append(clause, -literal)
			real = append(real, s.told(-literal))
		}
	}
	isOut := func(row int) bool { return row < len(from) && !used[from[row]] }
	_, ok := cert.Rows(real)
	return line{kind: api.LineLia, clause: clause, f: s.bank.retold(f, isOut)}, ok
}

// eachUsed tells which of the first rows a refutation has in its sums.
func eachUsed(f api.Farkas, rows int, use func(int)) {
	for i, n := range f.Sum[:min(rows, len(f.Sum))] {
		if n != "0" {
			use(i)
		}
	}
	for _, x := range f.L {
		eachUsed(x, rows, use)
	}
}

// retold tells a refutation with the names that package cert has, for rows of which some are left out that it doesn't use.
func (b *bank) retold(f api.Farkas, isOut func(int) bool) api.Farkas {
	out := api.Farkas{Split: f.Split, Row: api.Lin{K: f.Row.K}}
	for _, c := range f.Row.C {
		id, _ := strconv.Atoi(strings.TrimPrefix(c.Name, "n"))
		out.Row.C = append(out.Row.C, api.Coef{Name: term.Text(*b.entries[id].term), N: c.N})
	}
	for i, n := range f.Sum {
		if !isOut(i) {
			out.Sum = append(out.Sum, n)
		}
	}
	for _, x := range f.L {
		out.L = append(out.L, b.retold(x, isOut))
	}
	return out
}
