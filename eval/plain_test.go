package eval_test

import (
	"fmt"
	"math/big"
	"regexp"
	"slices"

	"avow/api"
)

// plain evaluates by the chapter's words, without panics: values are *big.Int, bool, struct{}; beside another outcome than api.OutValue stands what is raised.
type plain struct {
	defs       []api.Decl
	cells, old []*big.Int
	fuel       int
	calls      int // the most within one another
	depth      int // the most expressions within one another
}

// where an expression stands.
type where struct {
	binders      []any
	calls, depth int
}

func (w where) under(v any) where {
	w.binders = append(slices.Clone(w.binders), v)
	return w
}

func (p *plain) tell(e api.Expr, w where) (any, int) {
	w.depth++
	p.depth = max(p.depth, w.depth)
	if w.depth > 100000 {
		return nil, api.OutFuel
	}
	switch e.Op {
	case api.EAnd, api.EOr, api.EImp:
		return p.connected(e, w)
	case api.EIf:
		first, out := p.tell(e.L[0], w)
		if out != api.OutValue {
			return first, out
		}
		if first.(bool) {
			return p.tell(e.L[1], w)
		}
		return p.tell(e.L[2], w)
	case api.ELet:
		first, out := p.tell(e.L[0], w)
		if out != api.OutValue {
			return first, out
		}
		return p.tell(e.L[1], w.under(first))
	case api.ETry:
		first, out := p.tell(e.L[0], w)
		if out != api.OutRaise {
			return first, out
		}
		return p.tell(e.L[1], w.under(first))
	}
	var operands []any
	for _, o := range e.L {
		v, out := p.tell(o, w)
		if out != api.OutValue {
			return v, out
		}
		operands = append(operands, v)
	}
	if e.Op == api.ECall {
		return p.called(p.defs[e.I], operands, where{calls: w.calls, depth: w.depth})
	}
	return p.made(e, operands, w)
}

// decided: of a connective, the truth of its left operand that decides, and what it decides.
var decided = map[int][2]bool{api.EAnd: {false, false}, api.EOr: {true, true}, api.EImp: {false, true}}

func (p *plain) connected(e api.Expr, w where) (any, int) {
	left, out := p.tell(e.L[0], w)
	if out != api.OutValue {
		return left, out
	}
	if left == decided[e.Op][0] {
		return decided[e.Op][1], api.OutValue
	}
	return p.tell(e.L[1], w)
}

func (p *plain) called(d api.Decl, args []any, w where) (any, int) {
	w.calls++
	p.calls = max(p.calls, w.calls)
	if p.fuel == 0 || w.calls > 10000 {
		return nil, api.OutFuel
	}
	p.fuel--
	w.binders = args
	return p.tell(d.Body, w)
}

// made tells what is made of the values of all operands.
func (p *plain) made(e api.Expr, v []any, w where) (any, int) {
	switch e.Op {
	case api.ENum:
		return bigOf(e.N), api.OutValue
	case api.EBool:
		return e.B, api.OutValue
	case api.EVar:
		return w.binders[len(w.binders)-1-e.I], api.OutValue
	case api.ERead:
		return p.cells[e.I], api.OutValue
	case api.EOld:
		return p.old[e.I], api.OutValue
	case api.ENot:
		return !v[0].(bool), api.OutValue
	case api.EEq:
		return fmt.Sprint(v[0]) == fmt.Sprint(v[1]), api.OutValue
	case api.ENe:
		return fmt.Sprint(v[0]) != fmt.Sprint(v[1]), api.OutValue
	case api.ESeq:
		return v[1], api.OutValue
	case api.EWrite:
		p.cells[e.I] = v[0].(*big.Int)
	case api.ERaise:
		return v[0], api.OutRaise
	case api.EAssert:
		if !v[0].(bool) {
			return nil, api.OutAssert
		}
	case api.EUnit:
	default:
		return ofNumbers(e.Op, v), api.OutValue
	}
	return struct{}{}, api.OutValue
}

func ofNumbers(op int, v []any) any {
	a, out := v[0].(*big.Int), new(big.Int)
	if op == api.ENeg {
		return out.Neg(a)
	}
	b := v[1].(*big.Int)
	switch op {
	case api.EMul:
		return out.Mul(a, b)
	case api.EAdd:
		return out.Add(a, b)
	case api.ESub:
		return out.Sub(a, b)
	case api.ELt:
		return a.Cmp(b) < 0
	case api.ELe:
		return a.Cmp(b) <= 0
	case api.EGt:
		return a.Cmp(b) > 0
	}
	return a.Cmp(b) >= 0
}

var rightText = regexp.MustCompile(`^(0|-?[1-9][0-9]*)$`)

func bigOf(text string) *big.Int {
	out := new(big.Int)
	if rightText.MatchString(text) {
		out.SetString(text, 10)
	}
	return out
}

// textOf tells a value's text.
func textOf(v any) string {
	if v == struct{}{} {
		return "()"
	}
	return fmt.Sprint(v)
}

// read tells the value of a kind that the i-th text says.
func read(kind int, texts []string, i int) any {
	text := ""
	if i < len(texts) {
		text = texts[i]
	}
	switch kind {
	case api.TyInt:
		return bigOf(text)
	case api.TyBool:
		return text == "true"
	}
	return struct{}{}
}

func newPlain(l []api.Decl, old, cells []string, fuel int) *plain {
	p := &plain{defs: definitions(l), fuel: min(max(fuel, 0), 1<<20)}
	for i := range len(l) - len(p.defs) {
		p.cells = append(p.cells, read(api.TyInt, cells, i).(*big.Int))
		p.old = append(p.old, read(api.TyInt, old, i).(*big.Int))
	}
	return p
}

func (p *plain) args(d api.Decl, texts []string) []any {
	var out []any
	for i, param := range d.Params {
		out = append(out, read(param.T.Kind, texts, i))
	}
	return out
}

// run tells what Run must, of a definition that there is.
func (p *plain) run(def int, args []string) api.Result {
	d := p.defs[def]
	v, out := p.called(d, p.args(d, args), where{})
	told := api.Result{Out: out}
	if out == api.OutValue || out == api.OutRaise {
		told.Value = textOf(v)
	}
	for _, n := range p.cells {
		told.Cells = append(told.Cells, n.String())
	}
	return told
}

// formula tells what Formula must, of a definition that there is, and which 0 or 1.
func (p *plain) formula(def, which int, args []string, result string) (bool, bool) {
	d := p.defs[def]
	values := p.args(d, args)
	type asked struct {
		e       api.Expr
		binders []any
	}
	var all []asked
	if which == 0 {
		for i, param := range d.Params {
			for _, e := range param.T.R {
				all = append(all, asked{e, values[:i+1]})
			}
		}
		for _, e := range d.Requires {
			all = append(all, asked{e, values})
		}
	} else {
		for _, e := range slices.Concat(d.T.R, d.Ensures) {
			all = append(all, asked{e, append(slices.Clone(values), read(d.T.Kind, []string{result}, 0))})
		}
	}
	yes, fuel := true, p.fuel
	for _, a := range all {
		p.fuel = fuel
		v, out := p.tell(a.e, where{binders: a.binders})
		if out != api.OutValue {
			return false, false
		}
		yes = yes && v.(bool)
	}
	return yes, true
}
