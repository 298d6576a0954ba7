package norm_test

import (
	"fmt"
	"math/big"
	"math/rand"
	"testing"

	"avow/api"
	"avow/norm"
	"avow/show"
)

// runner evaluates expressions: values are *big.Int, bool, struct{}.
type runner struct {
	defs  []api.Decl
	cells []*big.Int
	old   []*big.Int
	fuel  int
}

// What ends an evaluation beside a value.
type (
	raised   struct{ n *big.Int }
	noFuel   struct{}
	asserted struct{}
)

func (r *runner) int(e api.Expr, binders []any) *big.Int { return r.value(e, binders).(*big.Int) }
func (r *runner) bool(e api.Expr, binders []any) bool    { return r.value(e, binders).(bool) }

// value tells the value of an expression with values of its binders.
func (r *runner) value(e api.Expr, binders []any) any {
	switch e.Op {
	case api.ENum:
		return bigOf(e)
	case api.EBool:
		return e.B
	case api.EUnit:
		return struct{}{}
	case api.EVar:
		return binders[len(binders)-1-e.I]
	case api.ERead:
		return r.cells[e.I]
	case api.EOld:
		return r.old[e.I]
	case api.EAnd, api.EOr, api.EImp, api.ENot:
		return r.connected(e, binders)
	case api.ENeg:
		return new(big.Int).Neg(r.int(e.L[0], binders))
	case api.ECall:
		return r.call(e, binders)
	case api.EMul, api.EAdd, api.ESub, api.EEq, api.ENe, api.ELt, api.ELe, api.EGt, api.EGe:
		return r.reckoned(e, r.value(e.L[0], binders), r.value(e.L[1], binders))
	}
	return r.goOn(e, binders)
}

func (r *runner) connected(e api.Expr, binders []any) bool {
	left := r.bool(e.L[0], binders)
	switch {
	case e.Op == api.ENot:
		return !left
	case e.Op == api.EAnd && !left:
		return false
	case e.Op == api.EOr && left, e.Op == api.EImp && !left:
		return true
	}
	return r.bool(e.L[1], binders)
}

func (r *runner) reckoned(e api.Expr, left, right any) any {
	if b, ok := left.(bool); ok {
		return (b == right.(bool)) == (e.Op == api.EEq)
	}
	a, b, out := left.(*big.Int), right.(*big.Int), new(big.Int)
	c := a.Cmp(b)
	switch e.Op {
	case api.EMul:
		return out.Mul(a, b)
	case api.EAdd:
		return out.Add(a, b)
	case api.ESub:
		return out.Sub(a, b)
	case api.EEq:
		return c == 0
	case api.ENe:
		return c != 0
	case api.ELt:
		return c < 0
	case api.ELe:
		return c <= 0
	case api.EGt:
		return c > 0
	}
	return c >= 0
}

func (r *runner) call(e api.Expr, binders []any) any {
	var args []any
	for _, arg := range e.L {
		args = append(args, r.value(arg, binders))
	}
	if r.fuel--; r.fuel < 0 {
		panic(noFuel{})
	}
	return r.value(r.defs[e.I].Body, args)
}

func under(binders []any, v any) []any { return append(binders[:len(binders):len(binders)], v) }

func (r *runner) goOn(e api.Expr, binders []any) any {
	switch e.Op {
	case api.EIf:
		if r.bool(e.L[0], binders) {
			return r.value(e.L[1], binders)
		}
		return r.value(e.L[2], binders)
	case api.ELet:
		return r.value(e.L[1], under(binders, r.value(e.L[0], binders)))
	case api.ESeq:
		r.value(e.L[0], binders)
		return r.value(e.L[1], binders)
	case api.EWrite:
		n := r.int(e.L[0], binders)
		r.cells[e.I] = n
		return struct{}{}
	case api.ERaise:
		panic(raised{r.int(e.L[0], binders)})
	case api.EAssert:
		if !r.bool(e.L[0], binders) {
			panic(asserted{})
		}
		return struct{}{}
	}
	return r.try(e, binders)
}

func (r *runner) try(e api.Expr, binders []any) any {
	v, ended := r.run(e.L[0], binders)
	if up, ok := ended.(raised); ok {
		return r.value(e.L[1], under(binders, up.n))
	}
	if ended != nil {
		panic(ended)
	}
	return v
}

// run tells a value, or what ended the evaluation.
func (r *runner) run(e api.Expr, binders []any) (v, ended any) {
	defer func() { ended = recover() }()
	return r.value(e, binders), nil
}

// String tells the number that is raised.
func (up raised) String() string { return "raised " + up.n.String() }

// anyOf tells some value of a kind.
func anyOf(m *rand.Rand, kind int) any {
	switch kind {
	case api.TyInt:
		return big.NewInt(int64(m.Intn(7) - 3))
	case api.TyBool:
		return m.Intn(2) == 0
	}
	return struct{}{}
}

// outcome tells how an evaluation ends, with its cells; false, if that takes too much.
func outcome(defs []api.Decl, e api.Expr, binders []any, cells, old []*big.Int) (string, bool) {
	r := &runner{defs: defs, cells: append([]*big.Int{}, cells...), old: old, fuel: 3000}
	v, ended := r.run(e, binders)
	switch ended.(type) {
	case nil, raised, asserted:
		return fmt.Sprint(v, ended, r.cells), true
	case noFuel:
		return "", false
	}
	panic(ended)
}

// TestReducedIsWorthTheSame runs random expressions, and what they are reduced to.
func TestReducedIsWorthTheSame(t *testing.T) {
	t.Parallel()
	held := 0
	for seed := range int64(5000) {
		l := made(t, seed+50000)
		m := &maker{Rand: rand.New(rand.NewSource(seed))}
		defs := definitions(l)
		for i, d := range defs {
			for _, q := range questions(m, i, d) {
				got, err := reduced(t, l, q.e, 3000)
				if err != api.OK || norm.Same(got, q.e) {
					continue
				}
				for range 4 {
					var binders []any
					for _, k := range q.kinds {
						binders = append(binders, anyOf(m.Rand, k))
					}
					var cells, old []*big.Int
					for range 8 {
						cells, old = append(cells, big.NewInt(int64(m.Intn(7)-3))), append(old, big.NewInt(int64(m.Intn(7)-3)))
					}
					was, ok := outcome(defs, q.e, binders, cells, old)
					is, _ := outcome(defs, got, binders, cells, old)
					if ok && is != was {
						t.Fatalf("P19.3: %s: %s, reduced to %s, with %v: %s, was %s", show.Program(l), show.Expr(q.e), show.Expr(got), binders, is, was)
					}
					held += number(ok)
				}
			}
		}
	}
	if held < 20000 {
		t.Errorf("only %d were run", held)
	}
}
