package show_test

import (
	"strings"
	"testing"

	"avow/api"
	"avow/parse"
	"avow/show"
)

func variable(name string) api.Expr     { return api.Expr{Op: api.EVar, Name: name} }
func number(n string) api.Expr          { return api.Expr{Op: api.ENum, N: n} }
func of(op int, l ...api.Expr) api.Expr { return api.Expr{Op: op, L: l} }
func ofName(op int, name string, l ...api.Expr) api.Expr {
	return api.Expr{Op: op, Name: name, L: l}
}

func TestExprs(t *testing.T) {
	a, b, c := variable("a"), variable("b"), variable("c")
	for _, x := range []struct {
		e      api.Expr
		wanted string
	}{
		{number("0"), "0"}, {number("120"), "120"}, {api.Expr{Op: api.EBool, B: true}, "true"}, {api.Expr{Op: api.EBool}, "false"}, {of(api.EUnit), "()"}, {variable("é_1"), "é_1"},
		{ofName(api.ECall, "f"), "f()"}, {ofName(api.ECall, "f", a), "f(a)"}, {ofName(api.ECall, "f", a, number("1"), ofName(api.ECall, "g")), "f(a, 1, g())"}, {ofName(api.ECall, "f", of(api.ESeq, a, b), c), "f((a; b), c)"},
		{ofName(api.ERead, "x"), "!x"}, {ofName(api.EOld, "x"), "old x"}, {of(api.ENeg, a), "(- a)"}, {of(api.ENeg, of(api.ENeg, number("1"))), "(- (- 1))"}, {of(api.ENot, a), "(not a)"},
		{of(api.EMul, a, b), "(a * b)"}, {of(api.EAdd, a, b), "(a + b)"}, {of(api.ESub, a, b), "(a - b)"}, {of(api.EEq, a, b), "(a = b)"}, {of(api.ENe, a, b), "(a <> b)"}, {of(api.ELt, a, b), "(a < b)"}, {of(api.ELe, a, b), "(a <= b)"}, {of(api.EGt, a, b), "(a > b)"}, {of(api.EGe, a, b), "(a >= b)"}, {of(api.EAnd, a, b), "(a && b)"}, {of(api.EOr, a, b), "(a || b)"}, {of(api.EImp, a, b), "(a ==> b)"},
		{of(api.EIf, a, b, c), "(if a then b else c)"}, {ofName(api.ELet, "x", a, b), "(let x = a in b)"}, {of(api.ESeq, a, b), "(a; b)"}, {ofName(api.EWrite, "x", a), "(x := a)"}, {of(api.ERaise, a), "(raise a)"}, {of(api.EAssert, a), "(assert a)"}, {ofName(api.ETry, "x", a, b), "(try a with x -> b)"},
		{of(api.EAdd, variable("x"), of(api.EMul, number("1"), number("2"))), "(x + (1 * 2))"}, {of(api.ESeq, ofName(api.EWrite, "x", of(api.EAdd, ofName(api.ERead, "x"), number("1"))), ofName(api.ERead, "x")), "((x := (!x + 1)); !x)"},
		{of(api.EIf, of(api.EIf, a, b, c), ofName(api.ELet, "x", of(api.ESeq, a, b), c), ofName(api.ETry, "x", of(api.ERaise, a), of(api.EAssert, b))), "(if (if a then b else c) then (let x = (a; b) in c) else (try (raise a) with x -> (assert b)))"},
		{api.Expr{Op: api.EVar, Name: "a", I: 7, At: 9}, "a"},
	} {
		if got := show.Expr(x.e); got != x.wanted {
			t.Errorf("P16.1: %q, wanted %q", got, x.wanted)
		}
	}
}

func TestTypes(t *testing.T) {
	for _, x := range []struct {
		t      api.Type
		wanted string
	}{
		{api.Type{Kind: api.TyInt}, "int"}, {api.Type{Kind: api.TyBool}, "bool"}, {api.Type{Kind: api.TyUnit, R: []api.Expr{}, At: 4}, "unit"},
		{api.Type{Kind: api.TyInt, Name: "v", R: []api.Expr{of(api.EGt, variable("v"), number("0"))}}, "{v : int | (v > 0)}"}, {api.Type{Kind: api.TyInt, Name: "v", R: []api.Expr{variable("v")}}, "{v : int | v}"},
	} {
		if got := show.Type(x.t); got != x.wanted {
			t.Errorf("P16.2: %q, wanted %q", got, x.wanted)
		}
	}
}

func TestDecls(t *testing.T) {
	a, b, c := variable("a"), variable("b"), variable("c")
	whole := api.Type{Kind: api.TyInt}
	refined := api.Type{Kind: api.TyInt, Name: "v", R: []api.Expr{of(api.ELe, variable("v"), a)}}
	all := []struct {
		d      api.Decl
		wanted string
	}{
		{api.Decl{Cell: true, Name: "x", N: "3"}, "ref x := 3;;"}, {api.Decl{Cell: true, Name: "x", N: "-30"}, "ref x := -30;;"}, {api.Decl{Cell: true, Name: "x", N: "0", At: 4}, "ref x := 0;;"},
		{api.Decl{Name: "f", Effect: api.EfPure, T: whole, Body: a}, "let f : Pure int is a;;"}, {api.Decl{Name: "f", Rec: true, Effect: api.EfState, T: refined, Body: of(api.ESeq, a, b)}, "let rec f : State {v : int | (v <= a)} is (a; b);;"},
		{api.Decl{Name: "f", Params: []api.Param{{Name: "a", T: whole}}, Effect: api.EfExn, T: api.Type{Kind: api.TyBool}, Body: a}, "let f (a : int) : Exn bool is a;;"}, {api.Decl{Name: "f", Params: []api.Param{{Name: "a", T: whole}, {Name: "b", T: refined}, {Name: "c", T: api.Type{Kind: api.TyUnit}}}, Effect: api.EfAll, T: api.Type{Kind: api.TyUnit}, Body: c}, "let f (a : int) (b : {v : int | (v <= a)}) (c : unit) : All unit is c;;"},
		{api.Decl{Name: "f", Effect: api.EfDiv, T: whole, Requires: []api.Expr{a}, Body: b}, "let f : Div int requires a is b;;"}, {api.Decl{Name: "f", Effect: api.EfPure, T: whole, Result: "r", Ensures: []api.Expr{a}, Body: b}, "let f : Pure int ensures r. a is b;;"}, {api.Decl{Name: "f", Rec: true, Effect: api.EfPure, T: whole, Measure: []api.Expr{a}, Body: b}, "let rec f : Pure int decreases a is b;;"},
		{api.Decl{Name: "f", Rec: true, Effect: api.EfPure, T: whole, Requires: []api.Expr{of(api.EAnd, a, b)}, Result: "r", Ensures: []api.Expr{of(api.ENot, variable("r"))}, Measure: []api.Expr{a, of(api.ENeg, b), c}, Body: b}, "let rec f : Pure int requires (a && b) ensures r. (not r) decreases a, (- b), c is b;;"},
	}
	var l []api.Decl
	lines := ""
	for _, x := range all {
		if got := show.Decl(x.d); got != x.wanted {
			t.Errorf("P16.2: %q, wanted %q", got, x.wanted)
		}
		l, lines = append(l, x.d), lines+x.wanted+"\n"
	}
	if got := show.Program(l); got != lines {
		t.Errorf("P16.2: %q, wanted %q", got, lines)
	}
	if got := show.Program(nil) + show.Program([]api.Decl{}); got != "" {
		t.Errorf("P16.2: %q of nothing", got)
	}
}

// TestReadAgain holds what is shown of texts that were read against what is read of it.
func TestReadAgain(t *testing.T) {
	for _, text := range []string{
		"", "ref x := - 0;; ref y := -7;;", "let f (x:{v:int|v>0&&v<9}) : Div {w:int|w=1} requires a==>b==>c ensures r.old x<>!x decreases -x, x;y is x:=1;raise 2;assert a||b;();;",
		"let f : Exn int is if a then b;c else try (let x=f() in x;g(1,a;b)) with e->not-e;;",
	} {
		l, err := parse.Program(text)
		if err != nil {
			t.Fatalf("%q: %v", text, err)
		}
		holdReadAgain(t, l)
	}
}

// TestGreatExprs asks for expressions as deep and as great as a text can make them.
func TestGreatExprs(t *testing.T) {
	for _, s := range []string{"1+", "!x*", "f()-", "a||b&&", "-1*"} {
		text := strings.Repeat(s, (api.MaxText-1)/len(s)) + "1"
		e, err := parse.Expr(text)
		if err != nil {
			t.Fatalf("%q: %v", s, err)
		}
		got := show.Expr(e)
		if strip(got) != strip(text) || strings.Count(got, "(") != strings.Count(got, ")") {
			t.Errorf("P16.1: %.40q: %d bytes of %d", got, len(got), len(text))
		}
	}
	many := strings.Repeat("1+1+", api.MaxText/8) + "1"
	e, err := parse.Expr(many)
	if err != nil {
		t.Fatal(err)
	}
	d := api.Decl{Name: "f", Requires: []api.Expr{e}, Ensures: []api.Expr{e}, Measure: []api.Expr{e, e, e}, Body: e}
	if got := show.Program([]api.Decl{d, d}); strings.Count(got, show.Expr(e)) != 12 {
		t.Errorf("P16.2: %d of 12 are whole", strings.Count(got, show.Expr(e)))
	}
}

// strip takes brackets and spaces out of a text.
func strip(s string) string { return strings.NewReplacer("(", "", ")", "", " ", "").Replace(s) }

// strangeLists tells lists of operands that no text makes: too few, too many, one that contains itself, one that is shared so often that going through all of it has no end.
func strangeLists(op int) [][]api.Expr {
	ring := make([]api.Expr, 3)
	for i := range ring {
		ring[i] = api.Expr{Op: op, Name: "x", L: ring}
	}
	shared := []api.Expr{variable("a")}
	for range 100 {
		shared = []api.Expr{of(op, shared...), of(op, shared...), of(op, shared...)}
	}
	return [][]api.Expr{nil, {variable("a")}, make([]api.Expr, 5), ring, shared}
}

// TestStrangeExprs asks for what no text makes: calls must end.
func TestStrangeExprs(t *testing.T) {
	for op := -1; op <= api.EAssert+1; op++ {
		for _, l := range strangeLists(op) {
			show.Expr(api.Expr{Op: op, L: l})
		}
	}
	show.Expr(api.Expr{Op: api.ECall, L: make([]api.Expr, 1<<20)})
}

// TestStrangeDecls is as TestStrangeExprs, of types and declarations.
func TestStrangeDecls(t *testing.T) {
	for _, op := range []int{-1, api.ENeg, api.ECall, api.EIf} {
		for _, l := range strangeLists(op) {
			e := api.Expr{Op: op, L: l}
			show.Type(api.Type{Kind: op, R: l})
			show.Decl(api.Decl{Requires: l, Ensures: l, Measure: l, Params: []api.Param{{T: api.Type{R: l}}}, T: api.Type{R: l}, Effect: op, Body: e})
			show.Program([]api.Decl{{Cell: true, Body: e}, {Body: e}})
		}
	}
}

func TestNothingIsChanged(t *testing.T) {
	l, err := parse.Program("ref x := 1;; let rec f (a : {v : int | v > 0}) : All int requires a ensures r. b decreases c, d is f(x; y, 1 + 2);;")
	if err != nil {
		t.Fatal(err)
	}
	again, _ := parse.Program("ref x := 1;; let rec f (a : {v : int | v > 0}) : All int requires a ensures r. b decreases c, d is f(x; y, 1 + 2);;")
	first := show.Program(l)
	if second := show.Program(l); first != second || !same(l, again) {
		t.Errorf("rules 3 and 8: %q, then %q", first, second)
	}
}
