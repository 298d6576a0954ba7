package eval_test

import (
	"math/big"
	"slices"
	"strconv"
	"strings"
	"testing"

	"avow/api"
	"avow/eval"
)

// TestFuel asks with fuel that is just enough, and with less.
func TestFuel(t *testing.T) {
	for _, x := range []struct {
		text  string
		calls int
	}{
		{"1 + 2", 1}, {"id(1)", 2}, {"id(id(1))", 3}, {"id(1) + id(2)", 3}, {"down(0)", 2}, {"down(7)", 9}, {"if b then id(1) else 2", 1}, {"if not b then id(1) else 2", 2}, {"false && sure(true); 1", 1}, {"true && sure(true); 1", 2}, {"try id(1) with e -> id(2)", 2}, {"try raise 1 with e -> id(2)", 2}, {"try up(1) with e -> id(2)", 3}, {"try (try up(1) with e -> raise id(e)) with e -> id(2)", 4}, {"set(1); set(2); set(3)", 4},
	} {
		l, def := over(t, "int", x.text)
		for fuel := range x.calls + 3 {
			if got := eval.Run(l, def, nil, nil, fuel); (got.Out == api.OutValue) != (fuel >= x.calls) || (got.Out == api.OutFuel) != (fuel < x.calls) {
				t.Errorf("P20.1: %s with fuel %d: %v", x.text, fuel, got)
			}
		}
		for _, much := range []int{api.MaxFuel, api.MaxFuel + 1, 1<<63 - 1} {
			if got := eval.Run(l, def, nil, nil, much); got.Out != api.OutValue {
				t.Errorf("P20.1: %s with fuel %d: %v", x.text, much, got)
			}
		}
		for _, none := range []int{0, -1, -1 << 63} {
			mustBe(t, x.text, l, def, nil, []string{"3", "x"}, none, result(api.OutFuel, "", "3", "0"))
		}
	}
}

// TestCellsBehindNoFuel asks for the cells as they are where there is no more fuel: nothing catches that.
func TestCellsBehindNoFuel(t *testing.T) {
	for _, x := range []struct {
		text string
		fuel int
		want []string
	}{
		{"c := 5; id(1)", 1, []string{"5", "0"}}, {"id(c := 5; 1)", 1, []string{"5", "0"}}, {"minus(set(1), id(2))", 2, []string{"1", "0"}}, {"try (c := 5; id(1)) with e -> set(7)", 1, []string{"5", "0"}}, {"try up(4) with e -> set(7)", 2, []string{"0", "4"}}, {"set(1) + set(2)", 2, []string{"1", "0"}}, {"c := 6; on(1)", 1 << 20, []string{"6", "0"}}, {"try (try (d := 1; on(1)) with e -> (d := 2; 3)) with e -> (d := 3; 4)", 1 << 20, []string{"0", "1"}}, {"raise id(1)", 1, []string{"0", "0"}},
	} {
		l, def := over(t, "int", x.text)
		mustBe(t, x.text, l, def, nil, nil, x.fuel, result(api.OutFuel, "", x.want...))
	}
}

// TestMaxFuel asks for as many calls as there can be, and for one more.
func TestMaxFuel(t *testing.T) {
	t.Parallel()
	l := checked(t, "ref c := 0;; let rec g (n : int) : Div int is c := !c + 1; if n <= 0 then 1 else g(n - 1) + g(n - 1);; let f (n : int) : Div int is c := !c + 1; g(19) + n;; let h (n : int) : Div int is c := !c + 1; g(18) + g(18) + f(0);;")
	mustBe(t, "MaxFuel calls", l, 1, []string{"5"}, nil, api.MaxFuel, result(api.OutValue, strconv.Itoa(1<<19+5), strconv.Itoa(1<<20)))
	mustBe(t, "one less", l, 1, []string{"5"}, nil, api.MaxFuel-1, result(api.OutFuel, "", strconv.Itoa(1<<20-1)))
	for _, more := range []int{api.MaxFuel, api.MaxFuel + 1, 1<<63 - 1} {
		mustBe(t, "more calls", l, 2, []string{"5"}, nil, more, result(api.OutFuel, "", strconv.Itoa(1<<20)))
	}
}

// TestCallsWithinOneAnother asks for 10000 of them, and for one more.
func TestCallsWithinOneAnother(t *testing.T) {
	t.Parallel()
	for _, step := range []string{"f(n - 1)", "-f(n - 1)", "1 + f(n - 1)", "f(n - 1) - 1", "let v = f(n - 1) in v", "let v = n - 1 in f(v)", "1; f(n - 1)", "f(n - 1); 1", "if f(n - 1) = 1 then 1 else 0", "if true then f(n - 1) else 0", "if true && f(n - 1) = 1 then 1 else 0", "if false || f(n - 1) = 1 then 1 else 0", "f(n - 1) + f(0)", "f(0) + f(n - 1)", "try f(n - 1) with e -> f(9)", "try raise f(n - 1) with e -> f(0)", "try raise 0 with e -> f(n - 1)", "f(f(n - 1) - 1)", "f(try raise n - 1 with e -> e)", "(try f(0) with e -> 1) + f(n - 1)", "(try (f(0) + f(0); raise f(0)) with e -> f(0)) + f(n - 1)", "c := f(n - 1); 1", "assert f(n - 1) <= n; 1"} {
		l := checked(t, "ref c := 0;; let rec f (n : int) : Div int is if n <= 0 then 0 else ("+step+");; let g (n : int) : Div int is f(n) + f(n);;")
		for n, want := range map[int]int{9999: api.OutValue, 10000: api.OutFuel, 1 << 40: api.OutFuel} {
			if got := eval.Run(l, 0, []string{strconv.Itoa(n)}, nil, api.MaxFuel); got.Out != want {
				t.Errorf("P20.1: %s: %v of %d calls", step, got, n+1)
			}
			if got := eval.Run(l, 1, []string{strconv.Itoa(n - 1)}, nil, api.MaxFuel); got.Out != want {
				t.Errorf("P20.1: %s: %v of %d calls, twice", step, got, n+1)
			}
		}
	}
}

// steps: ways in which one expression stands within others, of ints and of truths; each holds a value that is handed on.
var steps = map[int][]func(api.Expr) api.Expr{
	api.TyInt: {
		func(e api.Expr) api.Expr { return of(api.ENeg, e) },
		func(e api.Expr) api.Expr { return of(api.EAdd, e, num("1")) },
		func(e api.Expr) api.Expr { return of(api.EAdd, num("1"), e) },
		func(e api.Expr) api.Expr { return of(api.ESub, e, num("1")) },
		func(e api.Expr) api.Expr { return of(api.ESub, num("1"), e) },
		func(e api.Expr) api.Expr { return of(api.EMul, e, num("-1")) },
		func(e api.Expr) api.Expr { return of(api.EMul, num("-1"), e) },
		func(e api.Expr) api.Expr { return of(api.EIf, truth(true), e, num("1")) },
		func(e api.Expr) api.Expr { return of(api.EIf, truth(false), num("1"), e) },
		func(e api.Expr) api.Expr { return of(api.ELet, e, bound(0)) },
		func(e api.Expr) api.Expr { return of(api.ELet, num("1"), e) },
		func(e api.Expr) api.Expr { return of(api.ESeq, e, num("1")) },
		func(e api.Expr) api.Expr { return of(api.ESeq, num("1"), e) },
		func(e api.Expr) api.Expr { return of(api.ETry, e, num("1")) },
		func(e api.Expr) api.Expr { return of(api.ETry, of(api.ERaise, num("1")), e) },
		func(e api.Expr) api.Expr { return of(api.ERaise, e) },
		func(e api.Expr) api.Expr { return api.Expr{Op: api.ECall, I: 1, L: []api.Expr{e, num("1")}} },
		func(e api.Expr) api.Expr { return api.Expr{Op: api.ECall, I: 1, L: []api.Expr{num("1"), e}} },
	},
	api.TyBool: {
		func(e api.Expr) api.Expr { return of(api.ENot, e) },
		func(e api.Expr) api.Expr { return of(api.EEq, e, truth(true)) },
		func(e api.Expr) api.Expr { return of(api.EEq, truth(true), e) },
		func(e api.Expr) api.Expr { return of(api.ENe, e, truth(true)) },
		func(e api.Expr) api.Expr { return of(api.ENe, truth(true), e) },
		func(e api.Expr) api.Expr { return of(api.EAnd, e, truth(true)) },
		func(e api.Expr) api.Expr { return of(api.EAnd, truth(true), e) },
		func(e api.Expr) api.Expr { return of(api.EOr, e, truth(false)) },
		func(e api.Expr) api.Expr { return of(api.EOr, truth(false), e) },
		func(e api.Expr) api.Expr { return of(api.EImp, e, truth(true)) },
		func(e api.Expr) api.Expr { return of(api.EImp, truth(true), e) },
		func(e api.Expr) api.Expr { return of(api.EIf, e, truth(true), truth(false)) },
		func(e api.Expr) api.Expr { return of(api.ESeq, of(api.EAssert, e), truth(true)) },
	},
}

// between: ways in which an int stands within what is none, and that within an int.
var between = []func(api.Expr) api.Expr{
	func(e api.Expr) api.Expr { return of(api.EIf, of(api.ELt, e, num("1")), num("1"), num("2")) },
	func(e api.Expr) api.Expr { return of(api.EIf, of(api.ELe, num("1"), e), num("1"), num("2")) },
	func(e api.Expr) api.Expr { return of(api.EIf, of(api.EGt, e, num("1")), num("1"), num("2")) },
	func(e api.Expr) api.Expr { return of(api.EIf, of(api.EGe, num("1"), e), num("1"), num("2")) },
	func(e api.Expr) api.Expr { return of(api.EIf, of(api.EEq, num("1"), e), num("1"), num("2")) },
	func(e api.Expr) api.Expr { return of(api.EIf, of(api.ENe, e, num("1")), num("1"), num("2")) },
	func(e api.Expr) api.Expr { return of(api.ESeq, of(api.EWrite, e), num("1")) },
	func(e api.Expr) api.Expr { return of(api.ETry, of(api.ERaise, e), num("1")) },
	func(e api.Expr) api.Expr { return of(api.ETry, of(api.ERaise, e), bound(0)) },
}

// TestExpressionsWithinOneAnother asks for 100000 of them, and for one more, by each way in which expressions stand within one another.
func TestExpressionsWithinOneAnother(t *testing.T) {
	t.Parallel()
	for kind, ways := range steps {
		for i, way := range ways {
			deep(t, way, kind, i)
		}
	}
	for i, way := range between {
		deep(t, way, api.TyInt, 100+i)
	}
}

// deep runs a body of so many expressions within one another.
func deep(t *testing.T, way func(api.Expr) api.Expr, kind, about int) {
	build := func(times, outer int) []api.Decl {
		e := map[int]api.Expr{api.TyInt: num("1"), api.TyBool: truth(true)}[kind]
		for range times {
			e = way(e)
		}
		for range outer {
			e = steps[kind][0](e)
		}
		beside := api.Decl{Effect: api.EfPure, Params: []api.Param{{T: api.Type{Kind: api.TyInt}}, {T: api.Type{Kind: api.TyInt}}}, T: api.Type{Kind: api.TyInt}, Body: bound(0)}
		return append(body(e, kind), beside, api.Decl{Cell: true})
	}
	measured := func(times int) int {
		p := newPlain(build(times, 0), nil, nil, 100)
		p.run(0, nil)
		return p.depth
	}
	ten, each := measured(10), measured(11)-measured(10)
	for _, deepest := range []int{100000, 100001} {
		l := build(10+(deepest-ten)/each, (deepest-ten)%each)
		got := eval.Run(l, 0, nil, nil, api.MaxFuel)
		if (got.Out == api.OutFuel) != (deepest == 100001) || got.Out == api.OutAssert || got.Out == api.OutFuel && got.Value != "" {
			t.Errorf("P20.1: %d, %d: %v of %d expressions within one another", kind, about, got, deepest)
		}
	}
}

// TestDeepestOperandCounts asks for one more expression within one another in each operand of an expression that stands as deep as can be.
func TestDeepestOperandCounts(t *testing.T) {
	t.Parallel()
	one, more := num("1"), of(api.ENeg, num("1"))
	for _, x := range []struct {
		ok  bool
		top api.Expr
	}{
		{true, of(api.EAdd, one, one)}, {false, of(api.EAdd, one, more)}, {false, of(api.EAdd, more, one)}, {true, of(api.EIf, truth(true), one, more)}, {false, of(api.EIf, truth(true), more, one)}, {false, of(api.EIf, truth(false), one, more)}, {true, of(api.EIf, truth(false), more, one)}, {false, of(api.EIf, of(api.ENot, truth(true)), one, one)}, {false, of(api.ELet, one, more)}, {false, of(api.ELet, more, bound(0))}, {true, of(api.ELet, one, bound(0))}, {true, of(api.ETry, one, more)}, {false, of(api.ETry, more, one)}, {true, of(api.ESeq, one, one)}, {false, of(api.ESeq, more, one)}, {false, of(api.ESeq, one, more)}, {true, api.Expr{Op: api.ECall, I: 1, L: []api.Expr{one}}}, {false, api.Expr{Op: api.ECall, I: 1, L: []api.Expr{more}}}, {false, api.Expr{Op: api.ECall, I: 2, L: []api.Expr{one}}}, {true, api.Expr{Op: api.ERead}}, {true, bound(0)},
	} {
		e := x.top
		for range 99998 {
			e = of(api.ELet, one, e)
		}
		l := body(e, api.TyInt)
		for _, b := range []api.Expr{bound(0), of(api.ENeg, bound(0))} {
			l = append(l, api.Decl{Effect: api.EfPure, Params: []api.Param{{T: api.Type{Kind: api.TyInt}}}, T: api.Type{Kind: api.TyInt}, Body: b})
		}
		l = append(l, api.Decl{Cell: true})
		if got := eval.Run(l, 0, nil, nil, 9); (got.Out == api.OutValue) != x.ok || (got.Out == api.OutFuel) == x.ok {
			t.Errorf("P20.1: %+v: %v", x.top, got)
		}
	}
}

// TestExpressionsWithinCalls asks for 100000 expressions, and for one more, with less than 10000 calls, as plain counts them.
func TestExpressionsWithinCalls(t *testing.T) {
	t.Parallel()
	for _, x := range []struct{ step, end string }{
		{"-[f(n - 1)]", "0"}, {"1 + [f(n - 1)] + 1", "-1"}, {"let v = n - 1 in [f(v)]", "1"}, {"let v = n - 1 in let w = v in 1; -[f(w)]", "- -n"}, {"if n > 1 then 1 + [f(n - 1)] else f(0)", "n"}, {"try -[f(n - 1)] with e -> e", "1"}, {"try raise 1 with e -> 2 - [f(n - 1)]", "1"}, {"f([f(n - 1)] - 1)", "-1"}, {"minus(minus([f(n - 1)], 1), 1)", "minus(1, 2)"}, {"assert true && not ([f(n - 1)] = 1 && false); 1", "1"}, {"c := -[f(n - 1)]; !c", "1"},
	} {
		body := strings.NewReplacer("[", strings.Repeat("-(-(", 8), "]", strings.Repeat("))", 8)).Replace(x.step)
		l := checked(t, "ref c := 0;; let minus (a : int) (b : int) : Pure int is a - b;; let rec f (n : int) : Div int is if n <= 0 then "+x.end+" else ("+body+");;")
		measured := func(n int) (int, int, api.Result) {
			p := newPlain(l, nil, nil, api.MaxFuel)
			r := p.run(1, []string{strconv.Itoa(n)})
			return p.depth, p.calls, r
		}
		ten, _, _ := measured(10)
		eleven, _, _ := measured(11)
		last := 10 + (100000-ten)/(eleven-ten)
		var outs []int
		for n := last - 1; n < last+3; n++ {
			_, calls, want := measured(n)
			if got := eval.Run(l, 1, []string{strconv.Itoa(n)}, nil, api.MaxFuel); !same(got, want) || calls > 9000 {
				t.Errorf("P20.1: %s: %v of %d, wanted %v (%d calls)", x.step, got, n, want, calls)
			}
			outs = append(outs, want.Out)
		}
		if !slices.Contains(outs, api.OutValue) || !slices.Contains(outs, api.OutFuel) {
			t.Errorf("the test itself misses the bound: %s: %v", x.step, outs)
		}
		exactly(t, l, x.step, last, 100000-ten-(last-10)*(eleven-ten))
	}
}

// exactly runs f of n within so many expressions, which makes 100000 of them within one another, and within one more.
func exactly(t *testing.T, l []api.Decl, step string, n, outer int) {
	t.Helper()
	for _, want := range []int{api.OutValue, api.OutFuel} {
		e := api.Expr{Op: api.ECall, I: 1, L: []api.Expr{num(strconv.Itoa(n))}}
		for range outer - 1 { // the call itself is one
			e = of(api.ENeg, e)
		}
		if outer == 0 {
			return
		}
		withG := append(slices.Clone(l), body(e, api.TyInt)...)
		if got := eval.Run(withG, 2, nil, nil, api.MaxFuel); got.Out != want {
			t.Errorf("P20.1: %s: %v, wanted outcome %d", step, got, want)
		}
		outer++
	}
}

// TestRaisingFromFarWithin asks for numbers that are raised out of many calls, trys and expressions, and for what is evaluated behind them.
func TestRaisingFromFarWithin(t *testing.T) {
	t.Parallel()
	l := checked(t, "ref c := 0;; let rec out (n : int) : Div int is if n <= 0 then raise 7 else let v = 1 in v + out(n - 1);; let rec again (n : int) : Div int is if n <= 0 then raise 7 else (try again(n - 1) with e -> (c := !c + 1; raise e + 1));; let rec each (n : int) : Div int is if n <= 0 then 0 else (try out(50) with e -> e) + each(n - 1);; let rec sum (n : int) : Div int is if n <= 0 then 0 else 1 + sum(n - 1);; let both (n : int) : Div int is (try out(n) with e -> e * 10) + sum(n);;")
	mustBe(t, "out", l, 0, []string{"9999"}, nil, api.MaxFuel, result(api.OutRaise, "7", "0"))
	mustBe(t, "out", l, 0, []string{"10000"}, nil, api.MaxFuel, result(api.OutFuel, "", "0"))
	mustBe(t, "again", l, 1, []string{"9999"}, nil, api.MaxFuel, result(api.OutRaise, "10006", "9999"))
	mustBe(t, "again", l, 1, []string{"10000"}, nil, api.MaxFuel, result(api.OutFuel, "", "0"))
	mustBe(t, "each", l, 2, []string{"9900"}, nil, api.MaxFuel, result(api.OutValue, "69300", "0"))
	mustBe(t, "both", l, 4, []string{"9998"}, nil, api.MaxFuel, result(api.OutValue, "10068", "0"))
	mustBe(t, "both", l, 4, []string{"9999"}, nil, api.MaxFuel, result(api.OutFuel, "", "0"))
}

// TestManyExpressions asks for many calls within one another of a body that isn't small.
func TestManyExpressions(t *testing.T) {
	t.Parallel()
	l := checked(t, "let rec f (n : int) : Pure int decreases n is if n <= 0 then 1 else if "+strings.Repeat("true && ", 1800)+"true then f(n - 1) else 0;;")
	mustBe(t, "many", l, 0, []string{"9999"}, nil, api.MaxFuel, result(api.OutValue, "1"))
}

// TestGreatTexts asks for texts of some MaxText bytes.
func TestGreatTexts(t *testing.T) {
	for _, x := range []struct{ part, last string }{{"1+", "1"}, {"!c-", "x"}, {"id(3)+", "x"}, {"(c:=!c+1;!c)-", "1"}, {"2*", "1"}, {"-3*", "-1"}, {"(let v=x in v+1)+", "y"}} {
		n := (api.MaxText - len(prelude) - 100) / len(x.part)
		l, def := over(t, "int", strings.Repeat(x.part, n)+x.last)
		args, cells := []string{"5", "6"}, []string{"7", "8"}
		want := newPlain(l, cells, cells, api.MaxFuel).run(def, args)
		mustBe(t, x.part, l, def, args, cells, api.MaxFuel, want)
		if want.Out != api.OutValue {
			t.Errorf("the test itself: %s: %v", x.part, shortened(want))
		}
	}
}

// TestGreatNumbers asks for numbers of some thousand digits.
func TestGreatNumbers(t *testing.T) {
	l := checked(t, "ref c := 0;; let rec pow (n : int) : Pure int decreases n is if n <= 0 then 1 else -3 * pow(n - 1);; let rec sum (n : int) (a : int) : State int decreases n is c := !c - a; if n <= 0 then a else sum(n - 1, a + a);; let up (n : int) : Exn int is raise pow(n);;")
	for _, n := range []int64{9, 10, 999, 5000} {
		p := new(big.Int).Exp(big.NewInt(-3), big.NewInt(n), nil)
		text := strconv.FormatInt(n, 10)
		mustBe(t, "pow", l, 0, []string{text}, nil, 10000, result(api.OutValue, p.String(), "0"))
		mustBe(t, "up", l, 2, []string{text}, nil, 10000, result(api.OutRaise, p.String(), "0"))
		q := new(big.Int).Mul(p, new(big.Int).Lsh(big.NewInt(1), uint(n)))
		behind := new(big.Int).Sub(p, new(big.Int).Lsh(q, 1))
		mustBe(t, "sum", l, 1, []string{text, p.String()}, nil, 10000, result(api.OutValue, q.String(), behind.String()))
	}
}
