package kinds

import (
	"slices"

	"avow/api"
)

// kinder tells kinds of expressions of one definition.
type kinder struct {
	*program
	callable int   // definitions of the numbers below this may be called
	binders  []int // their kinds, the innermost last
}

// within tells the kinder of the definition at.
func (p *program) within(at int, binders []int) *kinder {
	callable := min(at, len(p.defs))
	if d := p.def(at); d != nil && d.Rec {
		callable++
	}
	return &kinder{program: p, callable: callable, binders: slices.Clone(binders)}
}

func (k *kinder) kind(e *api.Expr) int {
	k.enter(e)
	made := k.made(e)
	k.leave()
	return made
}

// made tells the kind of what an expression makes of its operands.
func (k *kinder) made(e *api.Expr) int {
	switch e.Op {
	case api.EVar:
		return k.variable(e)
	case api.EMul:
		return k.product(e)
	case api.EEq, api.ENe:
		return k.equation(e)
	case api.ECall:
		return k.call(e)
	case api.EIf:
		return k.choice(e)
	case api.ELet:
		return k.binding(e)
	case api.ESeq:
		return k.sequence(e)
	case api.ETry:
		return k.catching(e)
	}
	operands, made := signature(e.Op)
	if made == 0 {
		refuse(e.At, api.ErrKind)
	}
	k.operands(e, operands...)
	return made
}

// signature tells, of operators whose operands' kinds are always the same, these and the kind that is made of them; of others 0.
func signature(op int) ([]int, int) {
	switch op {
	case api.ENum, api.ERead, api.EOld:
		return nil, api.TyInt
	case api.EBool:
		return nil, api.TyBool
	case api.EUnit:
		return nil, api.TyUnit
	case api.ENeg, api.ERaise:
		return []int{api.TyInt}, api.TyInt
	case api.EAdd, api.ESub:
		return []int{api.TyInt, api.TyInt}, api.TyInt
	case api.ELt, api.ELe, api.EGt, api.EGe:
		return []int{api.TyInt, api.TyInt}, api.TyBool
	case api.ENot:
		return []int{api.TyBool}, api.TyBool
	case api.EAnd, api.EOr, api.EImp:
		return []int{api.TyBool, api.TyBool}, api.TyBool
	case api.EWrite:
		return []int{api.TyInt}, api.TyUnit
	case api.EAssert:
		return []int{api.TyBool}, api.TyUnit
	}
	return nil, 0
}

// operands holds that an expression's operands are of these kinds, one each.
func (k *kinder) operands(e *api.Expr, kinds ...int) {
	mustHave(e, len(kinds))
	for i, kind := range kinds {
		k.mustBe(&e.L[i], kind)
	}
}

// mustHave holds that an expression has so many operands: no text makes others, and they have no kind.
func mustHave(e *api.Expr, operands int) {
	if len(e.L) != operands {
		refuse(e.At, api.ErrKind)
	}
}

// mustBe holds that an expression is of that kind.
func (k *kinder) mustBe(e *api.Expr, kind int) {
	if k.kind(e) != kind {
		refuse(e.At, api.ErrKind)
	}
}

func (k *kinder) bind(kind int) { k.binders = append(k.binders, kind) }

func (k *kinder) unbind() { k.binders = k.binders[:len(k.binders)-1] }

func (k *kinder) variable(e *api.Expr) int {
	mustHave(e, 0)
	if e.I < 0 || e.I >= len(k.binders) {
		refuse(e.At, api.ErrName)
	}
	return k.binders[len(k.binders)-1-e.I]
}

func (k *kinder) product(e *api.Expr) int {
	k.operands(e, api.TyInt, api.TyInt)
	if !isNumber(&e.L[0]) && !isNumber(&e.L[1]) {
		refuse(e.At, api.ErrLinear)
	}
	return api.TyInt
}

// isNumber tells whether an expression, which has a kind, is a number, or the opposite of one.
func isNumber(e *api.Expr) bool {
	return e.Op == api.ENum || e.Op == api.ENeg && e.L[0].Op == api.ENum
}

func (k *kinder) equation(e *api.Expr) int {
	mustHave(e, 2)
	left := k.kind(&e.L[0])
	if left != api.TyInt && left != api.TyBool {
		refuse(e.L[0].At, api.ErrKind)
	}
	k.mustBe(&e.L[1], left)
	return api.TyBool
}

func (k *kinder) call(e *api.Expr) int {
	if e.I < 0 || e.I >= k.callable {
		refuse(e.At, api.ErrName)
	}
	d := k.def(e.I)
	if len(e.L) != len(d.Params) {
		refuse(e.At, api.ErrArgs)
	}
	for i := range e.L {
		k.mustBe(&e.L[i], d.Params[i].T.Kind)
	}
	return d.T.Kind
}

func (k *kinder) choice(e *api.Expr) int {
	mustHave(e, 3)
	k.mustBe(&e.L[0], api.TyBool)
	kind := k.kind(&e.L[1])
	k.mustBe(&e.L[2], kind)
	return kind
}

func (k *kinder) binding(e *api.Expr) int {
	mustHave(e, 2)
	first := k.kind(&e.L[0])
	k.bind(first)
	kind := k.kind(&e.L[1])
	k.unbind()
	return kind
}

func (k *kinder) sequence(e *api.Expr) int {
	mustHave(e, 2)
	k.kind(&e.L[0])
	return k.kind(&e.L[1])
}

func (k *kinder) catching(e *api.Expr) int {
	mustHave(e, 2)
	kind := k.kind(&e.L[0])
	k.bind(api.TyInt)
	k.mustBe(&e.L[1], kind)
	k.unbind()
	return kind
}
