package scope_test

import (
	"slices"
	"strings"
	"testing"

	"avow/api"
	"avow/scope"
)

// TestGreatTexts asks for texts of some MaxText bytes: a part is repeated, and the last one stands behind it; in all of them what has a number has the one that is told.
func TestGreatTexts(t *testing.T) {
	for _, x := range []struct {
		head, part, last, end string
		number                int
	}{
		{"let f(a:int):Pure int is ", "a+", "a", ";;", 0}, {"let f(a:int)(b:int):Pure int is ", "a*", "a", ";;", 1}, {"let f(a:int):Pure int is ", "-a-", "a", ";;", 0}, {"let f(a:int)(b:int)(c:int):Pure int decreases ", "a,", "a", " is a;;", 2}, {"let f:Pure int is 1;;let rec g:Pure int is ", "g()*", "g()", ";;", 1},
		{"ref a:=1;;let f:State int is ", "!a&&", "!a", ";;", 0}, {"ref a:=1;;ref b:=1;;let f:State int ensures r. ", "old b||", "old b", " is !b;;", 1}, {"let rec f:Pure int is ", "f(f(),f())+", "f()", ";;", 0}, {"let f(a:int)(b:int)(x:int):Pure int is ", "(let x=a in 1)+", "a", ";;", 2},
	} {
		many := (api.MaxText - len(x.head+x.last+x.end)) / len(x.part)
		ahead := x.head + strings.Repeat(x.part, many)
		l, wrong := ask(t, read(t, ahead+x.last+x.end))
		if wrong != nil {
			t.Errorf("P17.1: %.40q: %v", ahead, wrong)
			continue
		}
		all := named(l)
		if len(all) <= many || len(all) != len(named(read(t, ahead+x.last+x.end))) {
			t.Errorf("P17.1: %.40q: %d numbers, %d parts", ahead, len(all), many)
		}
		if slices.ContainsFunc(all, func(e *api.Expr) bool { return e.I != x.number }) {
			t.Errorf("P17.2: %.40q: not all numbers are %d", ahead, x.number)
		}
		if _, wrong := ask(t, read(t, ahead+"z"+x.end)); wrong == nil || *wrong != (api.PlaceError{At: len(ahead), Err: api.ErrName}) {
			t.Errorf("P17.1: %.40q: %v", ahead, wrong)
		}
	}
}

// TestDeepBinders asks for as many binders as can be within one another.
func TestDeepBinders(t *testing.T) {
	text := "let f(a:int):Pure int is a+(" + strings.Repeat("let x=a in ", api.MaxDepth-2) + "a+x)+a;;"
	l, wrong := ask(t, read(t, text))
	if wrong != nil {
		t.Fatal(wrong)
	}
	inside := l[0].Body.L[0].L[1]
	for i := range api.MaxDepth - 2 {
		if inside.L[0].I != i {
			t.Errorf("P17.2: %d within %d", inside.L[0].I, i)
		}
		inside = inside.L[1]
	}
	if inside.L[0].I != api.MaxDepth-2 || inside.L[1].I != 0 || l[0].Body.L[1].I != 0 {
		t.Errorf("P17.2: %+v", inside)
	}
}

// strangeLists tells lists of operands that no text makes: too few, too many, such that contain themselves, one that is shared so often that going through all of it has no end, one that is far too deep.
func strangeLists(op int) [][]api.Expr {
	one := api.Expr{Op: api.EUnit}
	ring := make([]api.Expr, 3)
	for i := range ring {
		ring[i] = api.Expr{Op: op, Name: "x", L: ring}
	}
	inner := make([]api.Expr, 2)
	inner[0], inner[1] = one, api.Expr{Op: op, Name: "x", L: inner}
	shared, deep := []api.Expr{one}, []api.Expr{one}
	for range 100 {
		shared = []api.Expr{{Op: op, L: shared}, {Op: op, L: shared}, {Op: op, L: shared}}
	}
	for range 1 << 17 {
		deep = []api.Expr{{Op: op, Name: "x", L: deep}}
	}
	return [][]api.Expr{nil, {one}, {one, one}, make([]api.Expr, 9), ring, inner, shared, deep}
}

// TestStrangeTrees asks for what no text makes: calls must end.
func TestStrangeTrees(t *testing.T) {
	for op := -1; op <= api.EAssert+1; op++ {
		for _, l := range strangeLists(op) {
			of := api.Type{Kind: op, Name: "x", R: l}
			cell := api.Decl{Cell: true, Name: "x", Params: []api.Param{{T: of}}, Requires: l, Body: api.Expr{Op: op, L: l}}
			def := api.Decl{Rec: true, Params: []api.Param{{Name: "x", T: of}, {T: of}}, T: of, Requires: l, Ensures: l, Measure: l, Body: api.Expr{Op: op, Name: "x", L: l}}
			ask(t, []api.Decl{cell, def})
			ask(t, []api.Decl{{Body: def.Body}})
			ask(t, []api.Decl{{Ensures: l}})
			ask(t, []api.Decl{cell, {Name: "f", Ensures: l, Effect: op}, {T: of, Effect: op}, {Measure: l}, {Name: "g", Requires: l, Body: api.Expr{Op: op, Name: "g"}}})
		}
	}
}

// TestManyStrangeParts asks for more of everything than a text has.
func TestManyStrangeParts(t *testing.T) {
	const many = 1 << 18
	wide := make([]api.Expr, many)
	for i := range wide {
		wide[i] = api.Expr{Op: api.EVar, Name: "x", L: wide}
	}
	params := make([]api.Param, many)
	for i := range params {
		params[i].Name = strings.Repeat("n", i%1000)
		params[i].T.R = wide
	}
	ask(t, []api.Decl{{Params: params, Body: api.Expr{L: wide}}})
	l := make([]api.Decl, many)
	for i := range l {
		l[i] = api.Decl{Cell: i%3 == 0, Name: strings.Repeat("n", i%1000), Params: params, Body: api.Expr{L: wide}}
	}
	ask(t, l)
	if cells, defs := len(scope.Cells(l)), len(scope.Defs(l)); cells != (many+2)/3 || cells+defs != many {
		t.Errorf("P17.3: %d, %d", cells, defs)
	}
}
