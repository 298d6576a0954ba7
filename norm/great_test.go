package norm_test

import (
	"strconv"
	"strings"
	"testing"

	"avow/api"
	"avow/norm"
	"avow/show"
)

// TestDeepTrees asks for trees as deep as they may be.
func TestDeepTrees(t *testing.T) {
	x, yes, no := api.Expr{Op: api.EVar, I: 3}, api.Expr{Op: api.EBool, B: true}, api.Expr{Op: api.EBool}
	ints, truths := []api.Expr{x, num("1")}, []api.Expr{x, yes}
	for i, way := range []struct {
		leaves []api.Expr
		build  func(api.Expr) api.Expr
	}{
		{ints, func(e api.Expr) api.Expr { return of(api.ENeg, e) }},
		{ints, func(e api.Expr) api.Expr { return of(api.EAdd, num("1"), e) }},
		{ints, func(e api.Expr) api.Expr { return of(api.ESub, e, num("-1")) }},
		{truths, func(e api.Expr) api.Expr { return of(api.ENot, e) }},
		{truths, func(e api.Expr) api.Expr { return of(api.EAnd, yes, e) }},
		{truths, func(e api.Expr) api.Expr { return of(api.EOr, e, no) }},
		{ints, func(e api.Expr) api.Expr { return of(api.EIf, yes, e, x) }},
		{truths, func(e api.Expr) api.Expr { return of(api.EIf, x, e, no) }},
		{ints, func(e api.Expr) api.Expr { return of(api.ELet, num("-1"), e) }},
		{truths, func(e api.Expr) api.Expr { return of(api.ELet, x, e) }},
		{ints, func(e api.Expr) api.Expr { return of(api.ELet, e, api.Expr{Op: api.EVar}) }},
		{ints, func(e api.Expr) api.Expr { return of(api.ESeq, no, e) }},
		{truths, func(e api.Expr) api.Expr { return of(api.ESeq, e, no) }},
		{ints, func(e api.Expr) api.Expr { return of(api.ETry, x, e) }},
		{ints, func(e api.Expr) api.Expr { return of(api.ERaise, e) }},
		{truths, func(e api.Expr) api.Expr { return of(api.EAssert, e) }},
	} {
		for _, leaf := range way.leaves {
			e := leaf
			for range 9998 {
				e = way.build(e)
			}
			got, err := reduced(t, nil, e, 0)
			want := got
			if i != 8 { // to put values into so many trees takes plain too long
				want, _ = (&plain{}).tell(e)
			}
			if err != api.OK || !equal(got, want) || !norm.Same(got, want) || !norm.Same(e, e) {
				t.Errorf("P19.1, P19.2: %d: %v", i, err)
			}
		}
	}
	for leaf, same := range map[string]bool{"1": true, "2": false} {
		a, b := num("1"), num(leaf)
		for range 9998 {
			a, b = of(api.EAdd, a, num("3")), of(api.EAdd, b, num("3"))
		}
		if norm.Same(a, b) != same {
			t.Errorf("P19.2: trees with %s deep within: %v", leaf, !same)
		}
	}
}

// lets tells so many binders within one another, of which every third one has a number, and a variable so far out.
func lets(many, out int) api.Expr {
	e := api.Expr{Op: api.EVar, I: out}
	for i := range many { // from within
		first := api.Expr{Op: api.EVar, I: many - 1 - i}
		if i%3 == 0 {
			first = num(strconv.Itoa(i))
		}
		e = api.Expr{Op: api.ELet, L: []api.Expr{first, e}}
	}
	return e
}

// TestDeepBinders asks for many binders within one another, of which some stay and some go.
func TestDeepBinders(t *testing.T) {
	for out := range 305 {
		e := lets(300, out)
		want, _ := (&plain{}).tell(e)
		if got, err := reduced(t, nil, e, 0); err != api.OK || !equal(got, want) {
			t.Errorf("P19.1: %d: %v", out, err)
		}
	}
	for out, want := range map[int]api.Expr{0: num("0"), 1: {Op: api.EVar}, 2: {Op: api.EVar, I: 1}, 3: num("3"), 8997: num("8997"), 8998: {Op: api.EVar, I: 5998}, 9000: {Op: api.EVar, I: 6000}} {
		got, err := reduced(t, nil, lets(9000, out), 0)
		for got.Op == api.ELet {
			got = got.L[1]
		}
		if err != api.OK || !equal(got, want) {
			t.Errorf("P19.1: %d: %v, %+v", out, err, got)
		}
	}
}

// TestGreatTexts asks for texts of some MaxText bytes.
func TestGreatTexts(t *testing.T) {
	for _, x := range []struct{ kind, part, last, want string }{
		{"int", "1+", "1", ""}, {"int", "2-", "x", ""}, {"bool", "true&&", "b", "b"}, {"bool", "b||", "true", ""}, {"int", "1*2+", "x", ""}, {"int", "fib(3)-", "x", ""}, {"int", "claim(3)+", "x", ""},
	} {
		text := strings.Repeat(x.part, (api.MaxText-start(x.kind)-len(x.last)-2)/len(x.part)) + x.last
		l, e := over(t, x.kind, text)
		want, _ := (&plain{defs: definitions(l), fuel: api.MaxFuel}).tell(e)
		got, err := reduced(t, l, e, api.MaxFuel)
		if tooMany := size(want) > api.MaxNodes; tooMany != (err == api.ErrFuel) || !tooMany && !equal(got, want) || x.want != "" && show.Expr(got) != x.want {
			t.Errorf("P19.1: %.40s: %v, %.80s", text, err, show.Expr(got))
		}
	}
}

// strangeLists tells lists of operands that no text makes: too few, too many, such that contain themselves, one that is shared so often that going through all of it has no end, one that is far too deep.
func strangeLists(op int) [][]api.Expr {
	one := num("1")
	if op == api.ENot || op == api.EAnd || op == api.EOr || op == api.EImp || op == api.EAssert {
		one = api.Expr{Op: api.EBool, B: op == api.EAnd}
	}
	ring := make([]api.Expr, 3)
	for i := range ring {
		ring[i] = api.Expr{Op: op, L: ring}
	}
	wide := make([]api.Expr, 1<<12)
	for i := range wide {
		wide[i] = api.Expr{Op: op, L: wide}
	}
	inner := make([]api.Expr, 2)
	inner[0], inner[1] = one, api.Expr{Op: op, L: inner}
	shared, deep := []api.Expr{one}, []api.Expr{one}
	for range 100 {
		shared = []api.Expr{{Op: op, L: shared}, {Op: op, L: shared}, {Op: op, L: shared}}[:2+max(op, 0)%2]
	}
	for range 1 << 18 {
		deep = []api.Expr{{Op: op, L: deep}}
	}
	truth := api.Expr{Op: api.EBool, B: true}
	return [][]api.Expr{nil, {one}, {one, one}, {one, one, one}, {one, truth}, {truth, one}, {{Op: api.EUnit}, one}, {{Op: api.EUnit}, {Op: api.EUnit}}, {truth, one, one, one}, make([]api.Expr, 9), ring, wide, inner, shared, deep}
}

// TestStrangeTrees asks for what no text makes: calls must end.
func TestStrangeTrees(t *testing.T) {
	for op := -1; op <= api.EAssert+1; op++ {
		t.Run(strconv.Itoa(op), func(t *testing.T) {
			t.Parallel()
			for _, l := range strangeLists(op) {
				e := api.Expr{Op: op, L: l, N: "00x"}
				def := api.Decl{Effect: api.EfPure, Params: make([]api.Param, min(len(l), 4)), Body: e}
				norm.Value(e)
				norm.Same(e, e)
				reduced(t, []api.Decl{def, {Cell: true}, def}, e, 5)
				reduced(t, []api.Decl{{Cell: true}, def}, api.Expr{Op: api.ECall, L: make([]api.Expr, len(def.Params))}, 5)
			}
			for _, i := range []int{1, -1, 1 << 62, -1 << 63} {
				e := api.Expr{Op: op, I: i, L: []api.Expr{num("1"), {Op: api.EVar, I: i}}}
				reduced(t, []api.Decl{{Cell: true}, {Effect: api.EfPure, Params: make([]api.Param, 2), Body: e}}, e, 5)
				reduced(t, nil, of(api.ELet, num("1"), of(api.ETry, e, e)), 5)
			}
		})
	}
}

// TestSharedLists asks for trees that share lists so often that going through all of them has no end, and come to values.
func TestSharedLists(t *testing.T) {
	for _, op := range []int{api.EAnd, api.ELet, api.ESeq} {
		t.Run(strconv.Itoa(op), func(t *testing.T) {
			t.Parallel()
			yes := api.Expr{Op: api.EBool, B: true}
			e := of(op, yes, yes)
			for range 100 {
				e = of(op, e, e)
			}
			l := []api.Decl{{Effect: api.EfPure, Body: e}}
			asked := e
			if op == api.ELet {
				asked = api.Expr{Op: api.ECall}
			}
			if _, err := reduced(t, l, asked, 5); err != api.ErrFuel {
				t.Errorf("P30.7: %d: %v", op, err)
			}
			if norm.Same(e, e) {
				t.Errorf("P30.7: %d: the same, of which not all can be seen", op)
			}
		})
	}
}

// TestStrangeParts asks for calls of what isn't there, or has other parameters, and for values of other kinds.
func TestStrangeParts(t *testing.T) {
	l := checked(t, prelude)
	unit, truth := api.Expr{Op: api.EUnit}, api.Expr{Op: api.EBool}
	for _, e := range []api.Expr{
		{Op: api.ECall, I: -1}, {Op: api.ECall, I: 99}, {Op: api.ECall, I: 5, L: []api.Expr{num("1")}}, {Op: api.ECall}, {Op: api.ECall, L: []api.Expr{num("1"), num("2")}},
		of(api.EAdd, unit, num("1")), of(api.EAdd, truth, truth), of(api.ENeg, truth), of(api.ENot, num("1")), of(api.EEq, unit, unit), of(api.EEq, truth, num("1")), of(api.ELt, truth, truth), of(api.EAnd, num("1"), truth), of(api.EImp, unit, truth), of(api.EIf, num("1"), truth, truth), of(api.EIf, unit, truth, truth), of(api.ENeg), of(api.ENot), of(api.EAdd, num("1")), of(api.EIf, truth), of(api.ELet, num("1")), of(api.ESeq, num("1")), of(api.ETry, num("1")), of(api.EAnd, truth), of(api.EAdd, num("1"), num("2"), num("3")), {Op: 99, L: []api.Expr{num("1")}}, {},
	} {
		if got, err := reduced(t, l, e, 100); err != api.OK || !equal(got, e) {
			t.Errorf("%s comes to %s, %v", show.Expr(e), show.Expr(got), err)
		}
	}
	reduced(t, nil, api.Expr{Op: api.ECall}, 1)
	reduced(t, make([]api.Decl, 9), api.Expr{Op: api.ECall}, 1)
}

// TestNumbersOfOtherTexts asks for numbers that no text makes: those of texts that aren't right are 0.
func TestNumbersOfOtherTexts(t *testing.T) {
	for _, x := range []struct {
		e    api.Expr
		want string
	}{
		{of(api.EAdd, num("01"), num("1")), "1"}, {of(api.EAdd, api.Expr{Op: api.ENum, N: "-5"}, num("1")), "(- 4)"}, {of(api.ENeg, of(api.ENeg, api.Expr{Op: api.ENum, N: "-5"})), "(- 5)"}, {of(api.EEq, num(""), num("0")), "true"}, {of(api.ENeg, num("x")), "0"},
	} {
		if got, err := reduced(t, nil, x.e, 0); err != api.OK || show.Expr(got) != x.want {
			t.Errorf("%s: %s, %v, wanted %s", show.Expr(x.e), show.Expr(got), err, x.want)
		}
	}
}
