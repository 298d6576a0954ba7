package norm_test

import (
	"strconv"
	"strings"
	"testing"

	"avow/api"
	"avow/norm"
	"avow/parse"
	"avow/show"
)

var nines = strings.Repeat("9", api.MaxDigits)

// TestNorm asks for each operator, of values and of others. (A kind, an expression over x, y, b, u, and what it comes to.)
func TestNorm(t *testing.T) {
	for _, x := range [][3]string{
		{"int", "0", "0"}, {"int", "x", "x"}, {"bool", "true", "true"}, {"unit", "()", "()"}, {"unit", "u", "u"}, {"int", "!c", "!c"}, {"int", "!d + 1", "(!d + 1)"}, // nothing to reduce
		{"int", "-3", "(- 3)"}, {"int", "-0", "0"}, {"int", "- - 3", "3"}, {"int", "- - - 3", "(- 3)"}, {"int", "- (1 - 1)", "0"}, {"int", "-x", "(- x)"}, {"int", "- - x", "(- (- x))"}, {"int", "-(1 + 2)", "(- 3)"},
		{"int", "2 + 3", "5"}, {"int", "2 - 3", "(- 1)"}, {"int", "3 - 3", "0"}, {"int", "-2 + -3", "(- 5)"}, {"int", "-2 - -3", "1"}, {"int", "-2 + 2", "0"}, {"int", "2 * 3", "6"}, {"int", "-2 * 3", "(- 6)"}, {"int", "-2 * -3", "6"}, {"int", "-2 * 0", "0"},
		{"int", "0 + x", "(0 + x)"}, {"int", "0 * x", "(0 * x)"}, {"int", "x - x", "(x - x)"}, {"int", "2 * x", "(2 * x)"}, {"int", "x * -2", "(x * (- 2))"}, {"int", "(1 + 1) * 2 + 2 * (x + (1 + 1))", "(4 + (2 * (x + 2)))"}, {"int", "1 + x + 2", "((1 + x) + 2)"}, {"int", "1 + 2 + x + (3 + 4)", "((3 + x) + 7)"},
		{"int", nines + " + 1", "1" + strings.Repeat("0", api.MaxDigits)}, {"int", "1 - " + nines + " - 2", "(- 1" + strings.Repeat("0", api.MaxDigits) + ")"}, {"int", nines + " * " + nines + " - " + nines + " * " + nines, "0"}, {"bool", nines + " + 1 > " + nines, "true"},
		{"bool", "1 = 1", "true"}, {"bool", "1 = 2", "false"}, {"bool", "1 = -1", "false"}, {"bool", "-1 = -1", "true"}, {"bool", "1 <> 1", "false"}, {"bool", "1 <> 2", "true"}, {"bool", "-0 = 0", "true"},
		{"bool", "1 < 2", "true"}, {"bool", "2 < 2", "false"}, {"bool", "3 < 2", "false"}, {"bool", "-3 < -2", "true"}, {"bool", "1 <= 2", "true"}, {"bool", "2 <= 2", "true"}, {"bool", "3 <= 2", "false"}, {"bool", "1 > 2", "false"}, {"bool", "2 > 2", "false"}, {"bool", "3 > 2", "true"}, {"bool", "1 >= 2", "false"}, {"bool", "2 >= 2", "true"}, {"bool", "3 >= 2", "true"}, {"bool", "-3 >= 2", "false"}, {"bool", "10 > 9", "true"},
		{"bool", "x = x", "(x = x)"}, {"bool", "x < 1 + 1", "(x < 2)"}, {"bool", "1 + 1 >= x", "(2 >= x)"},
		{"bool", "true = true", "true"}, {"bool", "false = false", "true"}, {"bool", "true = false", "false"}, {"bool", "true <> false", "true"}, {"bool", "false <> false", "false"}, {"bool", "b = (1 = 1)", "(b = true)"}, {"bool", "b <> b", "(b <> b)"},
		{"bool", "not true", "false"}, {"bool", "not false", "true"}, {"bool", "not b", "(not b)"}, {"bool", "not not b", "(not (not b))"}, {"bool", "not (1 > 2)", "true"},
		{"bool", "true && b", "b"}, {"bool", "false && b", "false"}, {"bool", "true || b", "true"}, {"bool", "false || b", "b"}, {"bool", "true ==> b", "b"}, {"bool", "false ==> b", "true"},
		{"bool", "true && (b && 1 = 1)", "(b && true)"}, {"bool", "b && 1 = 1", "(b && true)"}, {"bool", "b || 1 = 1", "(b || true)"}, {"bool", "b ==> 1 = 1", "(b ==> true)"}, {"bool", "b && false", "(b && false)"}, {"bool", "b && (1 = 1 && 1 = 2)", "(b && false)"}, {"bool", "1 < 2 && 2 < 3", "true"}, {"bool", "1 < 2 && 2 < 2", "false"}, {"bool", "1 > 2 || 2 < 2", "false"}, {"bool", "1 < 2 ==> 2 < 2", "false"},
		{"bool", "false && on(1) = 1", "false"}, {"bool", "true || (assert false; b)", "true"}, {"bool", "false ==> (assert false; b)", "true"},
		{"int", "if 1 < 2 then x + (1 + 1) else on(1)", "(x + 2)"}, {"int", "if 1 > 2 then (assert false; 1) else 2 + 2", "4"}, {"int", "if b then 1 + 1 else 2 + 2", "(if b then 2 else 4)"}, {"int", "if b && 1 = 1 then x else y", "(if (b && true) then x else y)"}, {"int", "if true && b then x else y", "(if b then x else y)"}, {"unit", "if true then u else ()", "u"},
		{"int", "let v = 2 + 3 in v + x + v", "((5 + x) + 5)"}, {"int", "let v = 2 - 3 in v + v * 2", "(- 3)"}, {"int", "let v = 2 - 3 in v + x", "((- 1) + x)"}, {"int", "let v = x in v + (1 + 1)", "(let v = x in (v + 2))"}, {"int", "let v = true in if v then x else y", "x"}, {"int", "let v = () in x", "x"}, {"unit", "let v = () in v", "()"}, {"int", "let v = 1 in let v = v + 1 in v", "2"}, {"int", "let v = 1 in 7", "7"}, {"int", "let v = !c in v + 0", "(let v = !c in (v + 0))"}, {"int", "let v = (c := 1) in 1 + 1", "(let v = (c := 1) in 2)"},
		{"int", "let v = y in let w = 3 in v + w + x", "(let v = y in ((v + 3) + x))"}, {"int", "let w = 3 in let v = y in v + w + x", "(let v = y in ((v + 3) + x))"}, {"int", "let w = 1 in let v = y in let z = 2 in let q = v in w + v + z + q + x", "(let v = y in (let q = v in ((((1 + v) + 2) + q) + x)))"},
		{"int", "1; 2; x", "x"}, {"int", "u; 1 + 1", "(u; 2)"}, {"int", "(assert true); 1 + 1", "((assert true); 2)"}, {"int", "(if true then () else u); x", "x"}, {"int", "(1; x); 2", "(x; 2)"}, {"unit", "1; ()", "()"},
		{"int", "c := 1 + 1; !c", "((c := 2); !c)"}, {"unit", "d := -(1 + 1)", "(d := (- 2))"}, {"int", "raise 1 + 1", "(raise 2)"}, {"int", "raise x", "(raise x)"}, {"unit", "assert 1 = 1", "(assert true)"}, {"unit", "assert 1 = 2", "(assert false)"},
		{"int", "try raise 1 + 1 with e -> e + (2 + 2)", "(try (raise 2) with e -> (e + 4))"}, {"int", "try 5 with e -> 1 + 1", "(try 5 with e -> 2)"}, {"int", "let v = 5 in try v with e -> e + v + x", "(try 5 with e -> ((e + 5) + x))"}, {"int", "try x with e -> let v = 1 in e + v + y", "(try x with e -> ((e + 1) + y))"},
		{"int", "fib(10)", "55"}, {"int", "fib(0 - 10)", "(- 10)"}, {"int", "fib(x)", "fib(x)"}, {"int", "fib(x + (1 + 1))", "fib((x + 2))"}, {"int", "fib(fib(3 + 3) - 1)", "13"}, {"int", "fib(3) + fib(y) + fib(4)", "((2 + fib(y)) + 3)"},
		{"bool", "same(1 = 1)", "true"}, {"bool", "same(b)", "same(b)"}, {"unit", "none(())", "()"}, {"unit", "none(u)", "none(u)"}, {"int", "five()", "5"}, {"int", "five() + x", "(5 + x)"}, {"int", "minus(1, 3)", "(- 2)"}, {"int", "minus(minus(1, 3), -4)", "2"}, {"int", "minus(1 + 1, x)", "minus(2, x)"}, {"int", "minus(x, 1 + 1)", "minus(x, 2)"},
		{"int", "pick(1, true, 10)", "12"}, {"int", "pick(1, false, 10)", "1"}, {"int", "pick(1, b, 10)", "pick(1, b, 10)"}, {"int", "claim(1 + 1)", "((assert true); 2)"}, {"int", "claim(-1)", "((assert false); (- 1))"}, {"int", "let v = claim(2) in v + claim(1)", "(let v = ((assert true); 2) in (v + ((assert true); 1)))"}, {"int", "minus(claim(2), 1 + 1)", "minus(((assert true); 2), 2)"},
		{"int", "st()", "st()"}, {"int", "st() + 1 * 1", "(st() + 1)"}, {"int", "ex(1 + 1)", "ex(2)"}, {"int", "all(1 + 1)", "all(2)"}, {"int", "on(1 + 1)", "on(2)"}, {"int", "far(fib(3))", "far(2)"},
		{"int", "twice(1)", "(((assert false); 1) + ((assert false); 1))"},
	} {
		l, e := over(t, x[0], x[1])
		got, err := reduced(t, l, e, 1000)
		if err != api.OK || show.Expr(got) != x[2] {
			t.Errorf("P19.1: %s: %s, %v, wanted %s", x[1], show.Expr(got), err, x[2])
		}
		if again, err := reduced(t, l, got, 1000); err != api.OK || !norm.Same(again, got) || !equal(again, got) {
			t.Errorf("P19.3: %s: %s, %v", x[1], show.Expr(again), err)
		}
	}
}

// TestIndexes asks for EVars' I, where binders are gone and where they stay. (x, y, b, u are the binders of I 3, 2, 1, 0.)
func TestIndexes(t *testing.T) {
	for _, x := range []struct {
		text string
		want []int // of the EVars, from the left
	}{
		{"x + y", []int{3, 2}}, {"let v = 1 in x + y", []int{3, 2}}, {"let v = x in x + y + v", []int{3, 4, 3, 0}}, {"let v = 1 in let w = 2 in x + v", []int{3}}, {"let v = y in let w = 2 in x + v", []int{2, 4, 0}}, {"let w = 2 in let v = y in x + v + w", []int{2, 4, 0}}, {"let v = y in let w = 2 in let z = x in v + w + z + x", []int{2, 4, 1, 0, 5}}, {"try x with e -> let v = 1 in e + y + v", []int{3, 0, 3}}, {"let v = 1 in try x with e -> e + y + v", []int{3, 0, 3}}, {"try let v = 1 in x + v with e -> x + e", []int{3, 4, 0}}, {"let v = (let w = 1 in x + w) in let w = v in w + y", []int{3, 0, 0, 4}},
	} {
		l, e := over(t, "int", x.text)
		got, err := reduced(t, l, e, 10)
		var at []int
		each(got, func(e api.Expr) {
			if e.Op == api.EVar {
				at = append(at, e.I)
			}
		})
		if err != api.OK || !sameInts(at, x.want) {
			t.Errorf("P19.1: %s: %v, %v, wanted %v", x.text, at, err, x.want)
		}
	}
}

func each(e api.Expr, do func(api.Expr)) {
	do(e)
	for _, o := range e.L {
		each(o, do)
	}
}

func sameInts(a, b []int) bool {
	if len(a) != len(b) {
		return false
	}
	for i := range a {
		if a[i] != b[i] {
			return false
		}
	}
	return true
}

// TestPlaces asks for places of what is new, and of what stays: each operator of the answer in order, as a place in the text of the expression.
func TestPlaces(t *testing.T) {
	for _, x := range []struct {
		kind, text string
		want       []int
	}{
		{"int", "1 + 2", []int{2}}, {"int", "1 - 5", []int{2, 2}}, {"int", "x + (1 - 5)", []int{2, 0, 7, 7}}, {"int", "-3", []int{0, 1}}, {"int", "- - 3", []int{0}}, {"int", "-(1 - 3)", []int{0}}, {"int", "2 * -3 + x", []int{7, 2, 2, 9}}, {"bool", "not (1 < 2)", []int{0}}, {"bool", "1 < 2", []int{2}}, {"bool", "true = false", []int{5}}, {"bool", "true <> b", []int{5, 0, 8}}, {"bool", "true && b", []int{8}}, {"bool", "false ==> b", []int{6}}, {"bool", "1 = 1 ==> not b", []int{10, 14}},
		{"int", "if true then 1 + 1 else 2", []int{15}}, {"int", "if b then 1 + 1 else 2", []int{0, 3, 12, 21}}, {"int", "let v = 2 - 3 in x + v", []int{19, 17, 10, 10}}, {"int", "let v = 7 in v", []int{8}}, {"int", "u; 1 + 1", []int{1, 0, 5}}, {"int", "1; x", []int{3}}, {"int", "raise 1 - 2", []int{0, 8, 8}}, {"int", "fib(x + (1 + 1))", []int{0, 6, 4, 11}},
	} {
		l, e := over(t, x.kind, x.text)
		got, err := reduced(t, l, e, 10)
		if at := places(got, start(x.kind)); err != api.OK || !sameInts(at, x.want) {
			t.Errorf("P19.1: %s: %v, %v, wanted %v", x.text, at, err, x.want)
		}
	}
	l, e := over(t, "int", "claim(2 + 3)")
	got, err := reduced(t, l, e, 10)
	body := strings.Index(prelude, "assert a > 0; a")
	if at := places(got, 0); err != api.OK || !sameInts(at, []int{body + 12, body, body + 9, start("int") + 8}) {
		t.Errorf("P19.1: %v, %v: of a body its own, of a value its own", at, err)
	}
}

// places tells the places of all operators, from the left, above a place.
func places(e api.Expr, from int) []int {
	var out []int
	each(e, func(e api.Expr) { out = append(out, e.At-from) })
	return out
}

// TestValue asks for each operator.
func TestValue(t *testing.T) {
	for op := -1; op <= api.EAssert+1; op++ {
		want := op == api.ENum || op == api.EBool || op == api.EUnit
		if got := norm.Value(api.Expr{Op: op, N: "3", Name: "a", I: 1, At: 4}); got != want {
			t.Errorf("P19.1: Value of operator %d: %v", op, got)
		}
		want = want || op == api.ENeg
		if got := norm.Value(api.Expr{Op: op, L: []api.Expr{num("3")}}); got != want && op != api.ENum && op != api.EBool && op != api.EUnit {
			t.Errorf("P19.1: Value of operator %d of a number: %v", op, got)
		}
	}
	for i, x := range []struct {
		e    api.Expr
		want bool
	}{
		{num("0"), true}, {num("1"), true}, {num(nines), true}, {num("-1"), true}, {num("-10"), true}, {num("-" + nines), true}, {num("-0"), false}, {api.Expr{Op: api.EBool, B: true}, true}, {api.Expr{Op: api.EBool}, true}, {of(api.ENeg, num("-1")), false}, {of(api.ENeg, api.Expr{Op: api.EVar}), false}, {of(api.ENeg, api.Expr{Op: api.EVar, N: "3"}), false}, {of(api.ENeg), false}, {of(api.ENot, api.Expr{Op: api.EBool}), false}, {of(api.EAdd, num("1"), num("2")), false}, {of(api.ENeg, num("1"), num("1")), false}, {of(api.ENeg, api.Expr{Op: api.EBool}), false}, {api.Expr{}, false},
	} {
		if norm.Value(x.e) != x.want {
			t.Errorf("P19.1: Value of %d: %v", i, !x.want)
		}
	}
}

// TestSameOfTexts asks for texts that are the same but for places and names of binders, and for others.
func TestSameOfTexts(t *testing.T) {
	for _, x := range []struct {
		a, b string
		want bool
	}{
		{"x + 1", " x+ (1)", true}, {"let v = x in v + y", "let w=x in w + y", true}, {"try x with v -> v + y", "try x with w -> w + y", true}, {"let v = 1 in let w = 2 in v + w", "let w = 1 in let v = 2 in w + v", true}, {"let v = 1 in let w = 2 in v + w", "let v = 1 in let w = 2 in w + v", false}, {"let v = 1 in let w = 2 in v", "let v = 1 in let v = 2 in v", false}, {"let v = x in v", "try x with v -> v", false}, {"x", "y", false}, {"1", "2", false}, {"1", "-1", false}, {"x + y", "x - y", false}, {"x + y", "y + x", false}, {"x + y + x", "x + (y + x)", false}, {"!c", "!d", false}, {"!c", "!c", true}, {"(c := 1); 2", "(d := 1); 2", false}, {"fib(x)", "down(x)", false}, {"fib(1)", "fib(2)", false}, {"if b then x else y", "if b then y else x", false}, {"if true then x else y", "if false then x else y", false}, {"raise x", "- x", false}, {"(assert b); x", "(assert b); x", true}, {"u; x", "(); x", false},
	} {
		_, a := over(t, "int", x.a)
		_, b := over(t, "int", x.b)
		if norm.Same(a, b) != x.want || norm.Same(b, a) != x.want || !norm.Same(a, a) {
			t.Errorf("P19.2: %s and %s: %v", x.a, x.b, !x.want)
		}
	}
}

// TestSameOfFields changes one field at a time, of the whole and of its last operand.
func TestSameOfFields(t *testing.T) {
	for op := 0; op <= api.EAssert+1; op++ {
		e := api.Expr{Op: op, Name: "a", N: "1", L: []api.Expr{num("1"), num("2")}, I: 1, At: 1}
		for i, x := range []struct {
			change func(*api.Expr)
			same   bool
		}{
			{func(e *api.Expr) {}, true}, {func(e *api.Expr) { e.At++ }, true}, {func(e *api.Expr) { e.Name = "b" }, op == api.ELet || op == api.ETry || op == api.EVar}, {func(e *api.Expr) { e.N = "2" }, false}, {func(e *api.Expr) { e.B = true }, false}, {func(e *api.Expr) { e.I++ }, false}, {func(e *api.Expr) { e.Op++ }, false}, {func(e *api.Expr) { e.L = e.L[:1] }, false}, {func(e *api.Expr) { e.L = nil }, false}, {func(e *api.Expr) { e.L = append(e.L, num("3")) }, false}, {func(e *api.Expr) { e.L[1].N = "3" }, false}, {func(e *api.Expr) { e.L[0].N = "3" }, false}, {func(e *api.Expr) { e.L[1].At++ }, true},
		} {
			changed := clonedExprs([]api.Expr{e})[0]
			x.change(&changed)
			if norm.Same(e, changed) != x.same || norm.Same(changed, e) != x.same || norm.Same(of(api.ESeq, num("1"), e), of(api.ESeq, num("1"), changed)) != x.same {
				t.Errorf("P19.2: operator %d, change %d: %v", op, i, !x.same)
			}
		}
	}
	if !norm.Same(api.Expr{L: []api.Expr{}}, api.Expr{}) {
		t.Error("rule 2: an empty list and none are the same")
	}
}

// TestSameAsShown holds Same against what show tells of trees whose binders all have names of their own.
func TestSameAsShown(t *testing.T) {
	texts := strings.Fields("x y 1 2 -1 x+1 1+x x-1 x*2 2*x fib(x) fib(1) down(x) !c !d true false () not(b) b&&b b||b b==>b x=x x<>x x<x x<=x x>x x>=x c:=1 d:=1 c:=2 raise(1) raise(2) assert(b) 1;2 2;1 minus(x,1) minus(1,x)")
	for i, a := range texts {
		for j, b := range texts {
			x, y := parsed(t, a), parsed(t, b)
			if norm.Same(x, y) != (i == j) {
				t.Errorf("P19.2: %s and %s: %v", a, b, i != j)
			}
		}
	}
}

// parsed tells an expression whose variables' I are numbers of their names.
func parsed(t *testing.T, text string) api.Expr {
	t.Helper()
	e, err := parse.Expr(text)
	if err != nil {
		t.Fatalf("%s: %v", text, err)
	}
	return indexed(e)
}

func indexed(e api.Expr) api.Expr {
	if e.Op == api.EVar {
		e.I, _ = strconv.Atoi(map[string]string{"x": "3", "y": "2", "b": "1", "u": "0"}[e.Name])
	}
	for i := range e.L {
		e.L[i] = indexed(e.L[i])
	}
	return e
}
