package norm_test

import (
	"math/big"

	"avow/api"
)

// plain reduces by the chapter's words, read plainly: values are put into trees. It has no bounds but its fuel: it tells how far it came.
type plain struct {
	defs         []api.Decl
	fuel         int
	calls, depth int
	mostCalls    int // within one another
	deepest      int
}

// spent: what ends plain without fuel.
type spent struct{}

// tell tells what an expression comes to; false, if there isn't fuel enough.
func (p *plain) tell(e api.Expr) (out api.Expr, ok bool) {
	defer func() {
		if thrown := recover(); thrown != nil {
			_ = thrown.(spent)
		}
	}()
	return p.reduce(e), true
}

// within tells whether none of the bounds was passed.
func (p *plain) within(out api.Expr) bool {
	return p.mostCalls <= 10000 && p.deepest <= 100000 && size(out) <= api.MaxNodes
}

func isValue(e api.Expr) bool {
	return e.Op == api.EBool || e.Op == api.EUnit || e.Op == api.ENum || e.Op == api.ENeg && e.L[0].Op == api.ENum && e.L[0].N != "0"
}

func (p *plain) reduce(e api.Expr) api.Expr {
	p.depth++
	p.deepest = max(p.deepest, p.depth)
	out := p.reducedHere(e)
	p.depth--
	return out
}

func (p *plain) reducedHere(e api.Expr) api.Expr {
	out := e
	out.L = nil
	for i := range e.L {
		out.L = append(out.L, p.reduce(e.L[i]))
		if i == 0 && isValue(out.L[0]) {
			switch e.Op {
			case api.EAnd, api.EOr, api.EImp:
				return p.decided(e, out.L[0])
			case api.EIf:
				if out.L[0].B {
					return p.reduce(e.L[1])
				}
				return p.reduce(e.L[2])
			case api.ELet:
				return p.reduce(put(e.L[1], out.L[0], 0))
			case api.ESeq:
				return p.reduce(e.L[1])
			}
		}
	}
	for _, o := range out.L {
		if !isValue(o) {
			return out
		}
	}
	if e.Op == api.ECall {
		return p.called(out)
	}
	return reckon(out)
}

func (p *plain) decided(e, left api.Expr) api.Expr {
	switch {
	case e.Op == api.EImp && !left.B:
		return api.Expr{Op: api.EBool, B: true, At: e.At}
	case e.Op == api.EAnd && !left.B, e.Op == api.EOr && left.B:
		return left
	}
	return p.reduce(e.L[1])
}

// put tells an expression with a value in the place of the binder that is so far out.
func put(e, v api.Expr, out int) api.Expr {
	if e.Op == api.EVar && e.I == out {
		return v
	}
	if e.Op == api.EVar && e.I > out {
		e.I--
	}
	var l []api.Expr
	for i, o := range e.L {
		inner := out
		if i == 1 && (e.Op == api.ELet || e.Op == api.ETry) {
			inner++
		}
		l = append(l, put(o, v, inner))
	}
	e.L = l
	return e
}

func (p *plain) called(e api.Expr) api.Expr {
	d := p.defs[e.I]
	if d.Effect != api.EfPure {
		return e
	}
	if p.fuel == 0 {
		panic(spent{})
	}
	p.fuel--
	p.calls++
	p.mostCalls = max(p.mostCalls, p.calls)
	body := d.Body
	for i := range e.L { // the last one is the innermost
		body = put(body, e.L[len(e.L)-1-i], 0)
	}
	out := p.reduce(body)
	p.calls--
	return out
}

func bigOf(e api.Expr) *big.Int {
	if e.Op == api.ENeg {
		return new(big.Int).Neg(bigOf(e.L[0]))
	}
	out, _ := new(big.Int).SetString(e.N, 10)
	return out
}

// reckon tells what an operator makes of values.
func reckon(e api.Expr) api.Expr {
	if isValue(e) || len(e.L) == 0 {
		return e
	}
	yes := func(b bool) api.Expr { return api.Expr{Op: api.EBool, B: b, At: e.At} }
	if e.L[0].Op == api.EBool {
		switch e.Op {
		case api.ENot:
			return yes(!e.L[0].B)
		case api.EEq:
			return yes(e.L[0].B == e.L[1].B)
		case api.ENe:
			return yes(e.L[0].B != e.L[1].B)
		}
		return e
	}
	if e.Op < api.ENeg || e.Op > api.EGe {
		return e
	}
	n, a, b := new(big.Int), bigOf(e.L[0]), bigOf(e.L[len(e.L)-1])
	switch e.Op {
	case api.ENeg:
		n.Neg(a)
	case api.EMul:
		n.Mul(a, b)
	case api.EAdd:
		n.Add(a, b)
	case api.ESub:
		n.Sub(a, b)
	default:
		c := a.Cmp(b)
		return yes(map[int]bool{api.EEq: c == 0, api.ENe: c != 0, api.ELt: c < 0, api.ELe: c <= 0, api.EGt: c > 0, api.EGe: c >= 0}[e.Op])
	}
	digits := api.Expr{Op: api.ENum, N: new(big.Int).Abs(n).String(), At: e.At}
	if n.Sign() < 0 {
		return api.Expr{Op: api.ENeg, L: []api.Expr{digits}, At: e.At}
	}
	return digits
}
