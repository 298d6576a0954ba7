package cert

import (
	"avow/api"
	"avow/euf"
	"avow/farkas"
	"avow/rup"
	"avow/term"
)

// judge takes lines, or doesn't.
type judge struct {
	sig      []api.Fun
	given    []api.Term
	bank     *bank
	formulas map[int]struct{} // by numbers: atoms that were found right, and needn't be asked again
}

func newJudge(sig []api.Fun, given []api.Term) *judge {
	return &judge{sig: sig, given: given, bank: newBank(), formulas: map[int]struct{}{}}
}

// clauses tells the clauses of the lines of c up to the first one that isn't taken, whatever is ahead of it.
func (j *judge) clauses(c []api.Line) [][]int {
	var out [][]int
	for i := range c {
		clause, ok := j.line(&c[i])
		if !ok {
			break
		}
		out = append(out, clause)
	}
	return out
}

// following tells how many of the clauses stand ahead of the first LineRup that doesn't follow; all, if there is none. LineRups in a row are asked together, as each question goes through all that is ahead.
func following(c []api.Line, clauses [][]int) int {
	from := 0
	for to := range clauses {
		if c[to].Kind == api.LineRup {
			continue
		}
		if n := from + firstAstray(clauses[:from], clauses[from:to]); n < to {
			return n
		}
		from = to + 1
	}
	return from + firstAstray(clauses[:from], clauses[from:])
}

// firstAstray tells the number of the first clause of row that doesn't follow from those ahead; the length of row, if all do.
func firstAstray(ahead, row [][]int) int {
	if len(row) == 0 {
		return 0
	}
	n, _ := rup.Check(ahead, row)
	return n
}

// hasEmpty tells whether a clause is empty.
func hasEmpty(clauses [][]int) bool {
	for _, clause := range clauses {
		if len(clause) == 0 {
			return true
		}
	}
	return false
}

// line tells the clause that x adds, and true; false, if it isn't taken. Whether a LineRup follows is left to the caller, who knows what is ahead.
func (j *judge) line(x *api.Line) ([]int, bool) {
	clause, ok := j.clause(x.Clause)
	if !ok {
		return nil, false
	}
	switch x.Kind {
	case api.LineInput:
		return j.input(x.I)
	case api.LineTaut:
		ok = j.bank.isTaut(clause)
	case api.LineInst:
		ok = j.isInst(x)
	case api.LineEuf:
		ok = areGround(x.Clause) && euf.Valid(x.Clause)
	case api.LineLia:
		ok = isLia(x)
	case api.LineIte:
		ok = j.isIte(x)
	case api.LineTri:
		ok = j.isTri(x)
	case api.LineRup:
		ok = true
	default:
		ok = false
	}
	return clause, ok
}

// clause tells a clause by the numbers of its atoms, and true; false, if one isn't right.
func (j *judge) clause(c []api.Lit) ([]int, bool) {
	out, ok := j.bank.clause(c)
	if !ok {
		return nil, false
	}
	for i, literal := range out {
		if !j.isFormula(max(literal, -literal)-1, &c[i].Atom) {
			return nil, false
		}
	}
	return out, true
}

// isFormula tells whether t, which has this number, is a formula that term takes.
func (j *judge) isFormula(number int, t *api.Term) bool {
	if _, ok := j.formulas[number]; ok {
		return true
	}
	if !j.hasSort(t, api.SortBool) {
		return false
	}
	j.formulas[number] = struct{}{}
	return true
}

// hasSort tells whether term takes t, of the sort.
func (j *judge) hasSort(t *api.Term, sort int) bool {
	own, e := term.Check(j.sig, *t)
	return e == api.OK && own == sort
}

// isGround tells whether t is ground, and term takes it, of the sort.
func (j *judge) isGround(t *api.Term, sort int) bool { return term.Ground(*t) && j.hasSort(t, sort) }

// input tells the clause of a given formula.
func (j *judge) input(i int) ([]int, bool) {
	if i < 0 || i >= len(j.given) {
		return nil, false
	}
	return j.clause([]api.Lit{{Atom: j.given[i]}})
}

// areGround tells whether all atoms are ground.
func areGround(c []api.Lit) bool {
	for i := range c {
		if !term.Ground(c[i].Atom) {
			return false
		}
	}
	return true
}

// isInst tells whether x's clause says that a formula for all is false, or true of x's terms.
func (j *judge) isInst(x *api.Line) bool {
	if len(x.Clause) != 2 || !x.Clause[0].Neg || x.Clause[1].Neg {
		return false
	}
	all := x.Clause[0].Atom
	if all.Op != api.TAll || len(x.Terms) != len(all.Vars) {
		return false
	}
	for i := range x.Terms {
		if !j.isGround(&x.Terms[i], all.Vars[i].Sort) {
			return false
		}
	}
	made, e := term.Inst(all, x.Terms)
	return e == api.OK && term.Same(made, x.Clause[1].Atom)
}

// isLia tells whether the opposites of x's clause are refuted as rows.
func isLia(x *api.Line) bool {
	rows, ok := Rows(x.Clause)
	return ok && farkas.Check(rows, x.F) == api.OK
}

// isIte tells whether x's clause is one of the two that say what a choice is.
func (j *judge) isIte(x *api.Line) bool {
	if len(x.Terms) != 1 {
		return false
	}
	choice := x.Terms[0]
	if choice.Op != api.TIte || !j.isGround(&choice, api.SortInt) && !j.isGround(&choice, api.SortObj) {
		return false
	}
	is := func(neg bool, side api.Term) bool {
		return isClause(x.Clause, api.Lit{Neg: neg, Atom: choice.L[0]}, api.Lit{Atom: made(api.TEq, choice, side)})
	}
	return is(true, choice.L[1]) || is(false, choice.L[2])
}

// isTri tells whether x's clause says that two numbers are equal, or one of them is less.
func (j *judge) isTri(x *api.Line) bool {
	if len(x.Terms) != 2 || !j.isGround(&x.Terms[0], api.SortInt) || !j.isGround(&x.Terms[1], api.SortInt) {
		return false
	}
	a, b := x.Terms[0], x.Terms[1]
	return isClause(x.Clause, api.Lit{Atom: made(api.TEq, a, b)}, api.Lit{Atom: made(api.TLt, a, b)}, api.Lit{Atom: made(api.TLt, b, a)})
}

// made tells an operator of two.
func made(op int, a, b api.Term) api.Term { return api.Term{Op: op, L: []api.Term{a, b}} }

// isClause tells whether c has just these literals, in order.
func isClause(c []api.Lit, l ...api.Lit) bool {
	if len(c) != len(l) {
		return false
	}
	for i := range l {
		if c[i].Neg != l[i].Neg || !term.Same(c[i].Atom, l[i].Atom) {
			return false
		}
	}
	return true
}
