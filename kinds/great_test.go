package kinds_test

import (
	"strings"
	"testing"

	"avow/api"
)

// TestGreatTexts asks for texts of some MaxText bytes: a part is repeated, and the last one stands behind it.
func TestGreatTexts(t *testing.T) {
	for _, x := range []struct {
		head, part, last, wrong, end string
		err                          api.Errno
	}{
		{"let f(a:int):Pure int is ", "a+", "a", "true", ";;", api.ErrKind}, {"let f(a:int):Pure int is ", "a-a*2+", "a", "()", ";;", api.ErrKind}, {"let f(b:bool):Pure bool is ", "b&&", "b", "1", ";;", api.ErrKind}, {"ref c:=1;;let f(a:int)(b:bool):Pure bool requires ", "a=2||", "b", "!c=1", " is b;;", api.ErrPure}, {"let rec f(a:int)(b:bool):Pure bool ensures r. ", "r||", "b", "f(a,b)", " decreases a is b;;", api.ErrPure}, {"ref c:=1;;let f(a:int):State int is ", "!c+", "a", "(let x=true in x)", ";;", api.ErrKind}, {"let p(a:int):Pure int is a;;let f(a:int):Pure int is ", "p(1)+", "a", "p()", ";;", api.ErrArgs}, {"let f(a:{v:int|", "v>1||", "true", "v", "}):Pure int is a;;", api.ErrKind},
	} {
		many := (api.MaxText - len(x.head+x.last+x.wrong+x.end)) / len(x.part)
		ahead := x.head + strings.Repeat(x.part, many)
		if wrong := check(t, resolved(t, ahead+x.last+x.end)); wrong != nil {
			t.Errorf("P18.3: %.40q: %v", ahead, wrong)
		}
		if wrong := check(t, resolved(t, ahead+x.wrong+x.end)); wrong == nil || wrong.Err != x.err || wrong.At < len(ahead) {
			t.Errorf("P18.3: %.40q: %v, wanted %v", ahead, wrong, x.err)
		}
	}
}

// TestManyDefinitions asks for as many definitions as there can be, each of which calls those ahead of it.
func TestManyDefinitions(t *testing.T) {
	var text strings.Builder
	text.WriteString("let f0 (a : int) : Pure int is a;;")
	name := func(i int) string { return "f" + strings.Repeat("x", i%30) + strings.Repeat("y", i/30) }
	for i := 1; i < api.MaxDecls; i++ {
		text.WriteString("let " + name(i) + " (a : int) : Pure int is f0(a) + " + map[bool]string{true: "f0", false: name(i - 1)}[i == 1] + "(a);;")
	}
	l := resolved(t, text.String())
	if wrong := check(t, l); wrong != nil {
		t.Errorf("P18.3: %v", wrong)
	}
	last := &l[len(l)-1]
	last.Effect, l[len(l)-2].Effect = api.EfState, api.EfDiv
	if wrong := check(t, l); wrong == nil || *wrong != (api.PlaceError{At: last.Body.At, Err: api.ErrEffect}) {
		t.Errorf("P18.3: %v", wrong)
	}
}

// TestDeepTrees asks for trees as deep as they may be.
func TestDeepTrees(t *testing.T) {
	for _, x := range []struct {
		of    api.Expr
		build func(api.Expr) api.Expr
		kind  int
		does  effect
	}{
		{api.Expr{Op: api.ENum}, func(e api.Expr) api.Expr { return api.Expr{Op: api.ENeg, L: []api.Expr{e}} }, api.TyInt, effect{}},
		{api.Expr{Op: api.EBool}, func(e api.Expr) api.Expr { return api.Expr{Op: api.EAnd, L: []api.Expr{{Op: api.EBool}, e}} }, api.TyBool, effect{}},
		{api.Expr{Op: api.ERead}, func(e api.Expr) api.Expr { return api.Expr{Op: api.ERaise, L: []api.Expr{e}} }, api.TyInt, effect{cells: true, raises: true}},
		{api.Expr{Op: api.EVar}, func(e api.Expr) api.Expr {
			return api.Expr{Op: api.ELet, L: []api.Expr{{Op: api.EVar}, e}}
		}, api.TyBool, effect{}},
		{api.Expr{Op: api.EUnit}, func(e api.Expr) api.Expr {
			return api.Expr{Op: api.EIf, L: []api.Expr{{Op: api.EBool}, {Op: api.EUnit}, e}}
		}, api.TyUnit, effect{}},
		{api.Expr{Op: api.ENum}, func(e api.Expr) api.Expr {
			return api.Expr{Op: api.ETry, L: []api.Expr{{Op: api.ERaise, L: []api.Expr{{Op: api.EVar}}}, e}}
		}, api.TyInt, effect{}},
	} {
		e := x.of
		for range 9998 {
			e = x.build(e)
		}
		kind, wrong := kindOf(t, nil, 0, e, []int{x.kind})
		if does := effectOf(nil, e); kind != x.kind || wrong != nil || does != x.does {
			t.Errorf("P18.1, P18.2: %+v: %d, %v, %+v", x.of, kind, wrong, does)
		}
	}
}

// TestWideTrees asks for more expressions than texts have.
func TestWideTrees(t *testing.T) {
	e := api.Expr{Op: api.ENum}
	for range 20 {
		e = api.Expr{Op: api.EAdd, L: []api.Expr{e, e}}
	}
	if kind, wrong := kindOf(t, nil, 0, e, nil); kind != api.TyInt || wrong != nil {
		t.Errorf("P18.1: %d, %v", kind, wrong)
	}
	if does := effectOf(nil, api.Expr{Op: api.ESeq, L: []api.Expr{e, {Op: api.ERead}}}); does != (effect{cells: true}) {
		t.Errorf("P18.2: %+v", does)
	}
}

// strangeLists tells lists of operands that no text makes: too few, too many, such that contain themselves, one that is shared so often that going through all of it has no end, one that is far too deep.
func strangeLists(op int) [][]api.Expr {
	one := api.Expr{Op: api.ENum}
	if op == api.ENot || op == api.EAnd || op == api.EOr || op == api.EImp || op == api.EAssert {
		one.Op = api.EBool
	}
	ring := make([]api.Expr, 3)
	for i := range ring {
		ring[i] = api.Expr{Op: op, L: ring}
	}
	wide := make([]api.Expr, 1<<12)
	for i := range wide {
		wide[i] = api.Expr{Op: op, L: wide}
	}
	inner := make([]api.Expr, 2)
	inner[0], inner[1] = one, api.Expr{Op: op, L: inner}
	shared, deep := []api.Expr{one}, []api.Expr{one}
	for range 100 {
		shared = []api.Expr{{Op: op, L: shared}, {Op: op, L: shared}, {Op: op, L: shared}}[:2+max(op, 0)%2]
	}
	for range 1 << 17 {
		deep = []api.Expr{{Op: op, L: deep}}
	}
	return [][]api.Expr{nil, {one}, {one, one}, {one, one, one}, make([]api.Expr, 9), ring, wide, inner, shared, deep}
}

// TestStrangeTrees asks for what no text makes: calls must end.
func TestStrangeTrees(t *testing.T) {
	for op := -1; op <= api.EAssert+1; op++ {
		for _, l := range strangeLists(op) {
			e := api.Expr{Op: op, L: l}
			of := api.Type{Kind: op, R: l}
			def := api.Decl{Rec: op%2 == 0, Effect: op, Params: []api.Param{{T: of}, {T: api.Type{Kind: api.TyInt}}}, T: of, Requires: l, Ensures: l, Measure: l, Body: e}
			kindOf(t, []api.Decl{{Cell: true}, def, def}, 1, e, []int{op, 0, 1, 2, 3})
			effectOf([]api.Decl{def, {Cell: true}}, e)
			check(t, []api.Decl{{Cell: true, Requires: l, Body: e}, def})
			for _, each := range []api.Decl{{Body: e}, {Ensures: l}, {Requires: l}, {T: of}, {Rec: true, Measure: l}, {Params: def.Params}, {T: api.Type{Kind: api.TyInt}, Effect: api.EfDiv, Body: e}} {
				check(t, []api.Decl{{T: api.Type{Kind: api.TyInt}, Body: api.Expr{Op: api.ENum}}, each})
			}
		}
	}
}

// TestManyStrangeParts asks for more of everything than a text has.
func TestManyStrangeParts(t *testing.T) {
	const many = 1 << 18
	params := make([]api.Param, many)
	wide := make([]api.Expr, many)
	for i := range params {
		params[i].T.Kind = api.TyInt
		wide[i] = api.Expr{Op: api.ENum}
	}
	call := api.Expr{Op: api.ECall, L: wide}
	def := api.Decl{Params: params, T: api.Type{Kind: api.TyInt}, Body: wide[0]}
	if kind, wrong := kindOf(t, []api.Decl{def}, 1, call, nil); kind != api.TyInt || wrong != nil {
		t.Errorf("P18.1: %d, %v", kind, wrong)
	}
	l := make([]api.Decl, many)
	for i := range l {
		l[i] = def
	}
	check(t, l)
	for i := range l {
		l[i] = api.Decl{Cell: i%3 == 0, T: api.Type{Kind: api.TyInt}, Body: wide[0]}
	}
	if wrong := check(t, l); wrong != nil {
		t.Errorf("P18.3: %v", wrong)
	}
	effectOf(l, call)
}
