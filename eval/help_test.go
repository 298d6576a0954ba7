package eval_test

import (
	"slices"
	"strings"
	"testing"

	"avow/api"
	"avow/eval"
	"avow/kinds"
	"avow/parse"
	"avow/scope"
)

// checked tells a text's declarations, which are taken by all layers below.
func checked(t *testing.T, text string) []api.Decl {
	t.Helper()
	l, err := parse.Program(text)
	if err == nil {
		l, err = scope.Resolve(l)
	}
	if err == nil {
		err = kinds.Check(l)
	}
	if err != nil {
		t.Fatalf("%.300s: %v", text, err)
	}
	return l
}

// prelude: what the definitions of the tests may call, read and write: cells c and d.
const prelude = "ref c := 1;; " +
	"let id (n : int) : Pure int is n;; " +
	"let minus (a : int) (b : int) : Pure int is a - b;; " +
	"let set (n : int) : State int is c := n; n;; " +
	"ref d := -2;; " +
	"let up (n : int) : All int is d := n; raise n + 1;; " +
	"let sure (b : bool) : Pure bool is assert b; b;; " +
	"let rec down (n : int) : Pure int decreases n is if n <= 0 then 0 else down(n - 1);; " +
	"let rec on (n : int) : Div int is on(n + 1);; " +
	"let put (n : int) : State bool is d := n; n > 0;; "

// over tells the declarations of the prelude, and behind them a definition of that kind with parameters x, y, b, u; and its number.
func over(t *testing.T, kind, text string) ([]api.Decl, int) {
	t.Helper()
	l := checked(t, prelude+"let zz (x : int) (y : int) (b : bool) (u : unit) : Div "+kind+" is "+text+";;")
	return l, len(definitions(l)) - 1
}

// definitions tells the definitions alone.
func definitions(l []api.Decl) []api.Decl {
	return slices.DeleteFunc(slices.Clone(l), func(d api.Decl) bool { return d.Cell })
}

// result tells an outcome, its value and the cells.
func result(out int, value string, cells ...string) api.Result {
	return api.Result{Out: out, Value: value, Cells: cells}
}

func same(a, b api.Result) bool {
	return a.Out == b.Out && a.Value == b.Value && slices.Equal(a.Cells, b.Cells)
}

// body tells a program of one definition, Div, with that body and without parameters.
func body(e api.Expr, kind int) []api.Decl {
	return []api.Decl{{Name: "f", Effect: api.EfDiv, T: api.Type{Kind: kind}, Body: e}}
}

// mustBe runs a definition, and holds what is told.
func mustBe(t *testing.T, about string, l []api.Decl, def int, args, cells []string, fuel int, want api.Result) {
	t.Helper()
	if got := eval.Run(l, def, args, cells, fuel); !same(got, want) {
		t.Errorf("P20.1: %.200s: %v, wanted %v", about, shortened(got), shortened(want))
	}
}

func shortened(r api.Result) api.Result {
	r.Value = r.Value[:min(len(r.Value), 200)]
	return r
}

func num(n string) api.Expr {
	if after, below := strings.CutPrefix(n, "-"); below {
		return api.Expr{Op: api.ENeg, L: []api.Expr{num(after)}}
	}
	return api.Expr{Op: api.ENum, N: n}
}

func of(op int, l ...api.Expr) api.Expr { return api.Expr{Op: op, L: l} }

func truth(b bool) api.Expr { return api.Expr{Op: api.EBool, B: b} }

// bound tells a variable.
func bound(i int) api.Expr { return api.Expr{Op: api.EVar, I: i} }
