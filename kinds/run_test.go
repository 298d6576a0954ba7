package kinds_test

import (
	"math/rand"
	"testing"

	"avow/api"
	"avow/show"
)

// runner evaluates expressions with values of any kind: an int64, a bool, struct{}{}.
type runner struct {
	defs  []api.Decl
	cells []int64
	old   []int64
	fuel  int
	does  effect // what was done
}

// What ends an evaluation beside a value: something of a wrong kind, a raised number, no more fuel, an assertion that is false.
type (
	wrongKind struct{ e api.Expr }
	raised    struct{ n int64 }
	noFuel    struct{}
	asserted  struct{}
)

// must tells a value as one of that kind.
func must[T any](e api.Expr, v any) T {
	out, ok := v.(T)
	if !ok {
		panic(wrongKind{e})
	}
	return out
}

func (r *runner) int(e api.Expr, binders []any) int64 { return must[int64](e, r.value(e, binders)) }
func (r *runner) bool(e api.Expr, binders []any) bool { return must[bool](e, r.value(e, binders)) }

// value tells the value of an expression with values of its binders.
func (r *runner) value(e api.Expr, binders []any) any {
	switch e.Op {
	case api.ENum:
		return int64(e.N[0] - '0')
	case api.EBool:
		return e.B
	case api.EUnit:
		return struct{}{}
	case api.EVar:
		return binders[len(binders)-1-e.I]
	case api.ERead:
		r.does.cells = true
		return r.cells[e.I]
	case api.EOld:
		r.does.cells = true
		return r.old[e.I]
	case api.EEq, api.ENe:
		return r.equal(e, binders) == (e.Op == api.EEq)
	case api.EAnd, api.EOr, api.EImp, api.ENot:
		return r.connected(e, binders)
	case api.ENeg, api.EMul, api.EAdd, api.ESub:
		return r.reckoned(e, binders)
	case api.ELt, api.ELe, api.EGt, api.EGe:
		return r.compared(e, binders)
	case api.ECall:
		return r.call(e, binders)
	}
	return r.goOn(e, binders)
}

func (r *runner) equal(e api.Expr, binders []any) bool {
	left := r.value(e.L[0], binders)
	if b, ok := left.(bool); ok {
		return b == r.bool(e.L[1], binders)
	}
	return must[int64](e, left) == r.int(e.L[1], binders)
}

func (r *runner) connected(e api.Expr, binders []any) bool {
	left := r.bool(e.L[0], binders)
	switch {
	case e.Op == api.ENot:
		return !left
	case e.Op == api.EAnd && !left:
		return false
	case e.Op == api.EOr && left, e.Op == api.EImp && !left:
		return true
	}
	return r.bool(e.L[1], binders)
}

func (r *runner) reckoned(e api.Expr, binders []any) int64 {
	left := r.int(e.L[0], binders)
	if e.Op == api.ENeg {
		return -left
	}
	right := r.int(e.L[1], binders)
	switch e.Op {
	case api.EMul:
		return left * right
	case api.EAdd:
		return left + right
	}
	return left - right
}

func (r *runner) compared(e api.Expr, binders []any) bool {
	left, right := r.int(e.L[0], binders), r.int(e.L[1], binders)
	switch e.Op {
	case api.ELt:
		return left < right
	case api.ELe:
		return left <= right
	case api.EGt:
		return left > right
	}
	return left >= right
}

func (r *runner) call(e api.Expr, binders []any) any {
	d := r.defs[e.I]
	if len(d.Params) != len(e.L) {
		panic(wrongKind{e})
	}
	var args []any
	for i, arg := range e.L {
		args = append(args, r.ofKind(arg, d.Params[i].T.Kind, r.value(arg, binders)))
	}
	if r.fuel--; r.fuel < 0 {
		panic(noFuel{})
	}
	return r.ofKind(e, d.T.Kind, r.value(d.Body, args))
}

// ofKind holds that a value is of that kind.
func (r *runner) ofKind(e api.Expr, kind int, v any) any {
	switch kind {
	case api.TyInt:
		return must[int64](e, v)
	case api.TyBool:
		return must[bool](e, v)
	}
	return must[struct{}](e, v)
}

func (r *runner) goOn(e api.Expr, binders []any) any {
	switch e.Op {
	case api.EIf:
		if r.bool(e.L[0], binders) {
			return r.value(e.L[1], binders)
		}
		return r.value(e.L[2], binders)
	case api.ELet:
		v := r.value(e.L[0], binders)
		return r.value(e.L[1], append(binders[:len(binders):len(binders)], v))
	case api.ESeq:
		r.value(e.L[0], binders)
		return r.value(e.L[1], binders)
	case api.EWrite:
		r.does.cells = true
		n := r.int(e.L[0], binders)
		r.cells[e.I] = n
		return struct{}{}
	case api.ERaise:
		panic(raised{r.int(e.L[0], binders)})
	case api.EAssert:
		if !r.bool(e.L[0], binders) {
			panic(asserted{})
		}
		return struct{}{}
	}
	return r.try(e, binders)
}

func (r *runner) try(e api.Expr, binders []any) any {
	v, ended := r.run(e.L[0], binders)
	if up, ok := ended.(raised); ok {
		return r.value(e.L[1], append(binders[:len(binders):len(binders)], up.n))
	}
	if ended != nil {
		panic(ended)
	}
	return v
}

// run tells a value, or what ended the evaluation.
func (r *runner) run(e api.Expr, binders []any) (v, ended any) {
	defer func() { ended = recover() }()
	return r.value(e, binders), nil
}

// anyOf tells some value of a kind.
func anyOf(m *rand.Rand, kind int) any {
	switch kind {
	case api.TyInt:
		return int64(m.Intn(9) - 4)
	case api.TyBool:
		return m.Intn(2) == 0
	}
	return struct{}{}
}

func isOfKind(v any, kind int) bool {
	switch v.(type) {
	case int64:
		return kind == api.TyInt
	case bool:
		return kind == api.TyBool
	}
	return kind == api.TyUnit
}

// question: an expression, the kind that it is of, and values of its binders.
type question struct {
	e       api.Expr
	kind    int
	binders []any
}

// questions tells a definition's formulas and its body, with some values.
func questions(m *rand.Rand, d api.Decl) []question {
	var out []question
	var args []any
	ask := func(l []api.Expr, kind int, more ...any) {
		for _, e := range l {
			out = append(out, question{e, kind, append(args[:len(args):len(args)], more...)})
		}
	}
	for _, p := range d.Params {
		ask(p.T.R, api.TyBool, anyOf(m, api.TyInt))
		args = append(args, anyOf(m, p.T.Kind))
	}
	ask(d.Requires, api.TyBool)
	ask(d.T.R, api.TyBool, anyOf(m, api.TyInt))
	ask(d.Ensures, api.TyBool, anyOf(m, d.T.Kind))
	ask(d.Measure, api.TyInt)
	ask([]api.Expr{d.Body}, d.T.Kind)
	return out
}

// answer tells whether all goes right, and what was done.
func answer(m *rand.Rand, defs []api.Decl, q question) (bool, effect) {
	r := &runner{defs: defs, fuel: 50}
	for range 8 {
		r.cells, r.old = append(r.cells, int64(m.Intn(9)-4)), append(r.old, int64(m.Intn(9)-4))
	}
	v, ended := r.run(q.e, q.binders)
	switch ended.(type) {
	case nil:
		return isOfKind(v, q.kind), r.does
	case raised:
		r.does.raises = true
		return true, r.does
	case noFuel, asserted:
		return true, r.does
	}
	return false, r.does
}

// TestCheckedGoesRight runs random programs: what is checked comes to no value of a wrong kind, and does nothing that Effect doesn't tell.
func TestCheckedGoesRight(t *testing.T) {
	rightOfChecked, wrongOfOthers := 0, 0
	for seed := range int64(8000) {
		l := made(t, seed, []int{0, 10, 50, 200}[seed%4])
		m := rand.New(rand.NewSource(seed))
		checked := check(t, l) == nil
		defs := definitions(l)
		for i := range 4 * len(defs) {
			for _, q := range questions(m, defs[i/4]) {
				right, does := answer(m, defs, q)
				told := effectOf(l, q.e)
				switch {
				case !checked && !right:
					wrongOfOthers++
				case checked && (!right || does.cells && !told.cells || does.raises && !told.raises):
					t.Fatalf("P18.4: %s: %s with %v: %v, %+v, told %+v", show.Program(l), show.Expr(q.e), q.binders, right, does, told)
				case checked:
					rightOfChecked++
				}
			}
		}
	}
	if rightOfChecked < 20000 || wrongOfOthers < 1000 {
		t.Errorf("only %d runs of what is checked, and %d that go wrong of what isn't", rightOfChecked, wrongOfOthers)
	}
}
