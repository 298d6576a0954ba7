package norm_test

import (
	"slices"
	"strings"
	"testing"

	"avow/api"
	"avow/kinds"
	"avow/norm"
	"avow/parse"
	"avow/scope"
)

// checked tells a text's declarations, which are taken by all layers below.
func checked(t *testing.T, text string) []api.Decl {
	t.Helper()
	l, err := parse.Program(text)
	if err == nil {
		l, err = scope.Resolve(l)
	}
	if err == nil {
		err = kinds.Check(l)
	}
	if err != nil {
		t.Fatalf("%.300s: %v", text, err)
	}
	return l
}

// prelude: what the expressions of the tests may call, read and write.
const prelude = "ref c := 1;; " +
	"let rec fib (n : int) : Pure int decreases n is if n <= 1 then n else fib(n - 1) + fib(n - 2);; " +
	"let st : State int is !c;; " +
	"let same (b : bool) : Pure bool is b;; " +
	"ref d := 2;; " +
	"let none (u : unit) : Pure unit is u;; " +
	"let five : Pure int is 2 + 3;; " +
	"let minus (a : int) (b : int) : Pure int is a - b;; " +
	"let pick (a : int) (b : bool) (c : int) : Pure int is let d = a + c in if b then d + a else let e = d in e - c;; " +
	"let claim (a : int) : Pure int is assert a > 0; a;; " +
	"let ex (a : int) : Exn int is raise a;; " +
	"let all (a : int) : All int is c := a; a;; " +
	"let rec down (n : int) : Pure int decreases n is if n <= 0 then 0 else down(n - 1);; " +
	"let rec on (n : int) : Div int is on(n + 1);; " +
	"let far (a : int) : Div int is a;; " +
	"let rec twice (n : int) : Pure int decreases n is if n <= 0 then (assert false; 1) else twice(n - 1) + twice(n - 1);; "

const around = "let zz (x : int) (y : int) (b : bool) (u : unit) : Div "

// start tells where the expressions of the tests begin in their texts.
func start(kind string) int { return len(prelude + around + kind + " is ") }

// over tells the declarations, and an expression of that kind over x, y, b, u.
func over(t *testing.T, kind, text string) ([]api.Decl, api.Expr) {
	t.Helper()
	l := checked(t, prelude+around+kind+" is "+text+";;")
	return l, l[len(l)-1].Body
}

// reduced tells what Norm does, and holds that nothing is told beside an error.
func reduced(t *testing.T, l []api.Decl, e api.Expr, fuel int) (api.Expr, api.Errno) {
	t.Helper()
	out, err := norm.Norm(l, e, fuel)
	if err != api.OK && (err != api.ErrFuel || !isZero(out)) {
		t.Errorf("P19.1: %v, and %+v beside it", err, out)
	}
	return out, err
}

func isZero(e api.Expr) bool {
	return e.Op == 0 && e.Name == "" && e.N == "" && !e.B && len(e.L) == 0 && e.I == 0 && e.At == 0
}

// definitions tells the definitions alone.
func definitions(l []api.Decl) []api.Decl {
	return slices.DeleteFunc(slices.Clone(l), func(d api.Decl) bool { return d.Cell })
}

// equal tells whether two trees are the same in every field.
func equal(a, b api.Expr) bool {
	return a.Op == b.Op && a.Name == b.Name && a.N == b.N && a.B == b.B && a.I == b.I && a.At == b.At && slices.EqualFunc(a.L, b.L, equal)
}

// size tells how many operators a tree has.
func size(e api.Expr) int {
	out := 1
	for _, o := range e.L {
		out += size(o)
	}
	return out
}

func num(n string) api.Expr {
	if after, below := strings.CutPrefix(n, "-"); below {
		return api.Expr{Op: api.ENeg, L: []api.Expr{num(after)}}
	}
	return api.Expr{Op: api.ENum, N: n}
}

func of(op int, l ...api.Expr) api.Expr { return api.Expr{Op: op, L: l} }

// cloned tells the same in new memory, each list with some spare room behind it, and nil where it is empty.
func cloned(l []api.Decl) []api.Decl {
	out := roomy(l, api.Decl{Name: "spare"})
	for i := range out {
		d := &out[i]
		d.Params = roomy(d.Params, api.Param{Name: "spare"})
		for j := range d.Params {
			d.Params[j].T.R = clonedExprs(d.Params[j].T.R)
		}
		d.T.R, d.Requires, d.Ensures, d.Measure = clonedExprs(d.T.R), clonedExprs(d.Requires), clonedExprs(d.Ensures), clonedExprs(d.Measure)
		d.Body.L = clonedExprs(d.Body.L)
	}
	return out
}

func clonedExprs(l []api.Expr) []api.Expr {
	out := roomy(l, api.Expr{Name: "spare", I: 5})
	for i := range out {
		out[i].L = clonedExprs(out[i].L)
	}
	return out
}

func roomy[T any](l []T, spare T) []T {
	if len(l) == 0 {
		return nil
	}
	return append(slices.Clone(l), spare, spare)[:len(l)]
}
