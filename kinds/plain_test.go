package kinds_test

import (
	"strings"

	"avow/api"
)

// plain tells what the chapter's words say of declarations: an operator is a list of all signatures that it may have, of which those are left that fit the operands, one after the other.
type plain struct{ defs []api.Decl }

// letters tells kinds as letters.
func letters(kinds []int) string {
	out := ""
	for _, k := range kinds {
		out += string(" ibu"[k])
	}
	return out
}

func kindOfLetter(c byte) int { return strings.IndexByte(" ibu", c) }

// signatures tells all that an operator can be: operands' kinds, and behind them the kind that is made.
func (p plain) signatures(e api.Expr, binders []int) []string {
	switch e.Op {
	case api.ENum, api.ERead, api.EOld:
		return []string{"i"}
	case api.EBool:
		return []string{"b"}
	case api.EUnit:
		return []string{"u"}
	case api.EVar:
		return []string{letters(binders[len(binders)-1-e.I:][:1])}
	case api.ENeg, api.ERaise:
		return []string{"ii"}
	case api.EAdd, api.ESub, api.EMul:
		return []string{"iii"}
	case api.EEq, api.ENe:
		return []string{"iib", "bbb"}
	case api.ELt, api.ELe, api.EGt, api.EGe:
		return []string{"iib"}
	case api.ENot:
		return []string{"bb"}
	case api.EAnd, api.EOr, api.EImp:
		return []string{"bbb"}
	case api.ECall:
		d := p.defs[e.I]
		return []string{letters(append(paramKinds(d), d.T.Kind))}
	case api.EIf:
		return []string{"biii", "bbbb", "buuu"}
	case api.ETry:
		return []string{"iii", "bbb", "uuu"}
	case api.ELet, api.ESeq:
		return []string{"iii", "ibb", "iuu", "bii", "bbb", "buu", "uii", "ubb", "uuu"}
	case api.EWrite:
		return []string{"iu"}
	}
	return []string{"bu"} // EAssert
}

// kind tells an expression's kind, or the first fault.
func (p plain) kind(e api.Expr, binders []int) (int, *api.PlaceError) {
	left := p.signatures(e, binders)
	if len(left[0]) != len(e.L)+1 {
		return 0, &api.PlaceError{At: e.At, Err: api.ErrArgs}
	}
	for i, operand := range e.L {
		within := append([]int(nil), binders...)
		if i == 1 && e.Op == api.ELet {
			within = append(within, kindOfLetter(left[0][0]))
		} else if i == 1 && e.Op == api.ETry {
			within = append(within, api.TyInt)
		}
		kind, wrong := p.kind(operand, within)
		if wrong != nil {
			return 0, wrong
		}
		var fitting []string
		for _, s := range left {
			if kindOfLetter(s[i]) == kind {
				fitting = append(fitting, s)
			}
		}
		if len(fitting) == 0 {
			return 0, &api.PlaceError{At: operand.At, Err: api.ErrKind}
		}
		left = fitting
	}
	if e.Op == api.EMul && !isPlainNumber(e.L[0]) && !isPlainNumber(e.L[1]) {
		return 0, &api.PlaceError{At: e.At, Err: api.ErrLinear}
	}
	return kindOfLetter(left[0][len(e.L)]), nil
}

func isPlainNumber(e api.Expr) bool {
	return e.Op == api.ENum || e.Op == api.ENeg && e.L[0].Op == api.ENum
}

// all tells an expression and all within it, from the left, operators ahead of operands; but not what is raised within a try, if caught is false.
func all(e api.Expr, caught bool) []api.Expr {
	out := []api.Expr{e}
	for i, operand := range e.L {
		if caught || i != 0 || e.Op != api.ETry {
			out = append(out, all(operand, caught)...)
		}
	}
	return out
}

func (p plain) effect(e api.Expr) effect {
	var out effect
	for _, each := range all(e, true) {
		called := 0
		if each.Op == api.ECall {
			called = p.defs[each.I].Effect
		}
		out.cells = out.cells || each.Op == api.ERead || each.Op == api.EOld || each.Op == api.EWrite || called == api.EfState || called == api.EfAll || called == api.EfDiv
		out.endless = out.endless || called == api.EfDiv
	}
	for _, each := range all(e, false) {
		called := 0
		if each.Op == api.ECall {
			called = p.defs[each.I].Effect
		}
		out.raises = out.raises || each.Op == api.ERaise || called == api.EfExn || called == api.EfAll || called == api.EfDiv
	}
	return out
}

// formulas tells the first fault of formulas.
func (p plain) formulas(l []api.Expr, number, kind int, refinement bool, binders ...int) *api.PlaceError {
	for _, e := range l {
		got, wrong := p.kind(e, binders)
		if wrong != nil {
			return wrong
		}
		if got != kind {
			return &api.PlaceError{At: e.At, Err: api.ErrKind}
		}
		noCells := p.defs[number].Effect == api.EfPure || p.defs[number].Effect == api.EfExn
		for _, each := range all(e, true) {
			wrong := false
			switch each.Op {
			case api.EWrite, api.ERaise, api.EAssert, api.ESeq, api.ETry:
				wrong = true
			case api.ECall:
				wrong = p.defs[each.I].Effect != api.EfPure || each.I == number
			case api.ERead:
				wrong = refinement || noCells
			case api.EOld:
				wrong = noCells
			}
			if wrong {
				return &api.PlaceError{At: each.At, Err: api.ErrPure}
			}
		}
	}
	return nil
}

func (p plain) definition(number int) *api.PlaceError {
	d := p.defs[number]
	n := len(d.Measure)
	if d.Rec && d.Effect != api.EfDiv && (n == 0 || n > 4) || n > 0 && (!d.Rec || d.Effect == api.EfDiv) {
		return &api.PlaceError{At: d.At, Err: api.ErrMeasure}
	}
	params := paramKinds(d)
	for i, q := range d.Params {
		if wrong := p.formulas(q.T.R, number, api.TyBool, true, append(params[:i:i], api.TyInt)...); wrong != nil {
			return wrong
		}
	}
	for _, wrong := range []*api.PlaceError{
		p.formulas(d.Requires, number, api.TyBool, false, params...),
		p.formulas(d.T.R, number, api.TyBool, true, append(params[:len(params):len(params)], api.TyInt)...),
		p.formulas(d.Ensures, number, api.TyBool, false, append(params[:len(params):len(params)], d.T.Kind)...),
		p.formulas(d.Measure, number, api.TyInt, false, params...),
	} {
		if wrong != nil {
			return wrong
		}
	}
	got, wrong := p.kind(d.Body, params)
	if wrong != nil {
		return wrong
	}
	if got != d.T.Kind {
		return &api.PlaceError{At: d.Body.At, Err: api.ErrKind}
	}
	does := p.effect(d.Body)
	if does.cells && (d.Effect == api.EfPure || d.Effect == api.EfExn) || does.raises && (d.Effect == api.EfPure || d.Effect == api.EfState) || does.endless && d.Effect != api.EfDiv {
		return &api.PlaceError{At: d.Body.At, Err: api.ErrEffect}
	}
	return nil
}

func (p plain) check() *api.PlaceError {
	for number := range p.defs {
		if wrong := p.definition(number); wrong != nil {
			return wrong
		}
	}
	return nil
}
