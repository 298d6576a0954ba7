package eval_test

import (
	"strconv"
	"testing"

	"avow/api"
	"avow/eval"
)

// strangeLists tells lists of operands that no text makes: too few, too many, of other kinds, such that contain themselves, one that is shared so often that going through all of it has no end, one that is far too deep.
func strangeLists(op int) [][]api.Expr {
	one := num("1")
	if op == api.ENot || op == api.EAnd || op == api.EOr || op == api.EImp || op == api.EAssert || op == api.EIf {
		one = truth(op != api.EOr)
	}
	ring := make([]api.Expr, 3)
	for i := range ring {
		ring[i] = api.Expr{Op: op, L: ring[:2+op%2]}
	}
	wide := make([]api.Expr, 1<<12)
	for i := range wide {
		wide[i] = api.Expr{Op: op, L: wide}
	}
	inner := make([]api.Expr, 2)
	inner[0], inner[1] = one, api.Expr{Op: op, L: inner}
	shared, deep := []api.Expr{one}, []api.Expr{one}
	for range 100 {
		shared = []api.Expr{{Op: op, L: shared}, {Op: op, L: shared}, {Op: op, L: shared}}[:2+max(op, 0)%2]
	}
	for range 1 << 18 {
		deep = []api.Expr{{Op: op, L: deep}}
	}
	unit := of(api.EUnit)
	return [][]api.Expr{nil, {one}, {one, one}, {one, one, one}, {one, truth(true)}, {truth(true), one}, {unit, one}, {unit}, {unit, unit}, {truth(false), one, one, one}, {num("1"), unit, unit}, make([]api.Expr, 9), ring, wide, inner, shared, deep}
}

// ask calls all that can be called of a program; what is told must be whole: nothing is told by halves.
func ask(t *testing.T, l []api.Decl, args []string, fuel int) {
	t.Helper()
	eval.Start(l)
	for def := range 3 {
		got := eval.Run(l, def, args, args, fuel)
		if got.Out < api.OutValue || got.Out > api.OutAssert || (got.Out == api.OutFuel || got.Out == api.OutAssert) && got.Value != "" {
			t.Errorf("P20.1: %v", shortened(got))
		}
		for which := range 2 {
			if yes, told := eval.Formula(l, def, which, args, "1", args, args, fuel); yes && !told {
				t.Error("P20.2: true, and not reckoned")
			}
		}
	}
}

// TestStrangeTrees asks for what no text makes: calls must end.
func TestStrangeTrees(t *testing.T) {
	for op := -1; op <= api.EAssert+1; op++ {
		t.Run(strconv.Itoa(op), func(t *testing.T) {
			t.Parallel()
			for _, l := range strangeLists(op) {
				e := api.Expr{Op: op, L: l, N: "00x"}
				type1 := api.Type{Kind: len(l) % 4, R: []api.Expr{e}}
				def := api.Decl{Effect: api.EfPure, Params: []api.Param{{T: type1}}, T: type1, Requires: []api.Expr{e, e}, Ensures: []api.Expr{e}, Body: e}
				ask(t, []api.Decl{def}, []string{"1"}, 2)
				ask(t, []api.Decl{{Cell: true}, {Body: api.Expr{Op: api.ECall, I: 1, L: l}}, {Cell: true}, {Body: e}}, []string{"true", "x"}, 2)
			}
			for _, i := range []int{1, -1, 1 << 62, -1 << 63} {
				for many := range 4 {
					e := api.Expr{Op: op, I: i, L: []api.Expr{num("1"), bound(i), num("2")}[:many]}
					ask(t, []api.Decl{{Cell: true}, {Params: make([]api.Param, 2), Requires: []api.Expr{e}, Body: e}}, nil, 5)
					ask(t, body(of(api.ELet, num("1"), of(api.ETry, of(api.ERaise, num("1")), of(api.ETry, e, e))), 0), nil, 5)
				}
			}
		})
	}
}

// TestSharedLists asks for trees that share lists so often that going through all of them has no end, and which have values.
func TestSharedLists(t *testing.T) {
	leaves := map[int]api.Expr{api.EAdd: num("0"), api.EAnd: truth(true), api.EOr: truth(false), api.EEq: truth(true), api.ESeq: of(api.EUnit), api.ELet: num("1"), api.ECall: num("1")}
	for op, leaf := range leaves {
		t.Run(strconv.Itoa(op), func(t *testing.T) {
			t.Parallel()
			e := leaf
			for range 100 {
				e = api.Expr{Op: op, I: 1, L: []api.Expr{e, e}}
			}
			l := append(body(e, api.TyInt), api.Decl{Params: make([]api.Param, 2), Body: bound(0)})
			if got := eval.Run(l, 0, nil, nil, 5); got.Out != api.OutFuel {
				t.Errorf("P30.7: %v", got)
			}
			if op != api.EAnd {
				return
			}
			l[0].Requires, l[0].Ensures = []api.Expr{e, e}, []api.Expr{e, e}
			for which := range 2 {
				if yes, told := eval.Formula(l, 0, which, nil, "", nil, nil, 5); yes || told {
					t.Errorf("P30.7: %v, %v", yes, told)
				}
			}
		})
	}
	again := of(api.EAdd, num("1"), num("1")) // no text is as great, but it ends soon
	for range 20 {
		again = of(api.EAdd, again, again)
	}
	mustBe(t, "2^22 expressions", body(again, api.TyInt), 0, nil, nil, 1, result(api.OutValue, strconv.Itoa(1<<21)))
}

// TestRingsThatDecide asks for lists that contain themselves, through which the way is as long as a cell says, and far too many times so.
func TestRingsThatDecide(t *testing.T) {
	t.Parallel()
	read, less := api.Expr{Op: api.ERead}, api.Expr{Op: api.EWrite, L: []api.Expr{of(api.ESub, api.Expr{Op: api.ERead}, num("1"))}}
	ring := of(api.EIf, of(api.ELe, read, num("0")), num("7"), api.Expr{})
	ring.L[2] = of(api.ESeq, less, ring)
	l := append(body(ring, api.TyInt), api.Decl{Cell: true})
	mustBe(t, "ring", l, 0, nil, []string{"1000"}, 1, result(api.OutValue, "7", "0"))
	if got := eval.Run(l, 0, nil, []string{"100000"}, 1); got.Out != api.OutFuel {
		t.Errorf("P20.1: %v", got)
	}
	twice := of(api.EIf, of(api.ELe, bound(0), num("0")), num("1"), api.Expr{})
	twice.L[2] = of(api.ELet, of(api.ESub, bound(0), num("1")), of(api.EAdd, twice, twice))
	l = body(of(api.ELet, num("10"), twice), api.TyInt)
	mustBe(t, "twice", l, 0, nil, nil, 1, result(api.OutValue, "1024"))
	l = body(of(api.ELet, num("60"), twice), api.TyInt)
	if got := eval.Run(l, 0, nil, nil, 1); got.Out != api.OutFuel {
		t.Errorf("P30.7: %v", got)
	}
}

// TestManyFormulas asks for lists of formulas that are shared by so many parameters that going through all of it has no end.
func TestManyFormulas(t *testing.T) {
	t.Parallel()
	formulas := make([]api.Expr, 1<<16)
	for i := range formulas {
		formulas[i] = truth(true)
	}
	params := make([]api.Param, 1<<16)
	for i := range params {
		params[i].T.R = formulas
	}
	l := []api.Decl{{Params: params, Body: num("1")}}
	if yes, told := eval.Formula(l, 0, 0, nil, "", nil, nil, 1); yes || told {
		t.Errorf("P30.7: %v, %v", yes, told)
	}
	l[0].Params = params[:100]
	if yes, told := eval.Formula(l, 0, 0, nil, "", nil, nil, 1); !yes || !told {
		t.Errorf("P20.2: %v, %v", yes, told)
	}
}

// TestSeveralFormulas asks for lists of more than one: all of them count.
func TestSeveralFormulas(t *testing.T) {
	for i := range 3 {
		for _, other := range []bool{true, false} {
			l := []api.Expr{truth(true), truth(true), truth(true)}
			l[i].B = other
			for which, d := range []api.Decl{{Params: []api.Param{{}, {T: api.Type{R: l}}}}, {T: api.Type{R: l}}, {Requires: l}, {Ensures: l}} {
				if yes, told := eval.Formula([]api.Decl{d}, 0, which%2, nil, "", nil, nil, 1); yes != other || !told {
					t.Errorf("P20.2: %d: %v, %v", which, yes, told)
				}
			}
		}
	}
}

// TestSeveralOfWhichOneCannotBeReckoned asks for lists of more than one formula, of which one takes more fuel than there is.
func TestSeveralOfWhichOneCannotBeReckoned(t *testing.T) {
	for i := range 3 {
		for _, other := range []bool{true, false} {
			l := []api.Expr{truth(other), truth(other), truth(other)}
			l[i] = api.Expr{Op: api.ECall, I: 1}
			for which, d := range []api.Decl{{Params: []api.Param{{}, {T: api.Type{R: l}}}}, {T: api.Type{R: l}}, {Requires: l}, {Ensures: l}} {
				program := []api.Decl{d, {Effect: api.EfPure, T: api.Type{Kind: api.TyBool}, Body: truth(true)}}
				if yes, told := eval.Formula(program, 0, which%2, nil, "", nil, nil, 0); yes || told {
					t.Errorf("P20.2: %d: %v, %v", which, yes, told)
				}
				if yes, told := eval.Formula(program, 0, which%2, nil, "", nil, nil, 1); yes != other || !told {
					t.Errorf("P20.2: %d: %v, %v", which, yes, told)
				}
			}
		}
	}
}

// TestNumbersOfOtherTexts asks for numbers that no text makes: those of texts that aren't right are 0.
func TestNumbersOfOtherTexts(t *testing.T) {
	for n, want := range map[string]string{"": "0", "01": "0", "x": "0", "-5": "-5", "-0": "0", "5": "5"} {
		mustBe(t, n, body(api.Expr{Op: api.ENum, N: n}, api.TyInt), 0, nil, nil, 1, result(api.OutValue, want))
	}
}
