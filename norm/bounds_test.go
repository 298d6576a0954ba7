package norm_test

import (
	"math/big"
	"strconv"
	"strings"
	"testing"

	"avow/api"
)

// TestFuel asks with fuel that is just enough, and with one less.
func TestFuel(t *testing.T) {
	for _, x := range []struct {
		text  string
		calls int
	}{
		{"1 + 2", 0}, {"five()", 1}, {"five() + five()", 2}, {"fib(0)", 1}, {"fib(5)", 15}, {"fib(x)", 0}, {"fib(x + fib(2))", 3}, {"let v = five() in v + v", 1}, {"let v = x in minus(v, five())", 1}, {"let v = five() in minus(v, five())", 3}, {"if b then five() else five()", 2}, {"if true then five() else fib(9)", 1}, {"if true || fib(9) = 0 then 1 else 2", 0}, {"if b || five() = 5 then 1 else 2", 1}, {"on(five())", 1}, {"far(3) + st() + ex(2) + all(1)", 0}, {"fib(ex(1))", 0}, {"minus(minus(1, 2), minus(3, 4))", 3}, {"five(); x", 1}, {"x; five()", 1}, {"c := five(); !c", 1}, {"try five() with e -> five() + e", 2},
	} {
		l, e := over(t, "int", x.text)
		for fuel, want := range map[int]api.Errno{x.calls - 1: api.ErrFuel, x.calls: api.OK, x.calls + 1: api.OK, api.MaxFuel: api.OK, 1 << 60: api.OK} {
			if fuel < 0 {
				want = api.OK
			}
			if _, err := reduced(t, l, e, fuel); err != want {
				t.Errorf("P19.1: %s with fuel %d: %v", x.text, fuel, err)
			}
		}
		for _, none := range []int{0, -1, -1 << 63} {
			if _, err := reduced(t, l, e, none); (err == api.OK) != (x.calls == 0) {
				t.Errorf("P19.1: %s with fuel %d: %v", x.text, none, err)
			}
		}
	}
}

// TestMaxFuel asks for as many calls as there can be, and for one more.
func TestMaxFuel(t *testing.T) {
	t.Parallel()
	l := checked(t, "let f : Pure int is 0;; let rec g (n : int) : Pure int decreases n is if n <= 0 then 1 else g(n - 1) + g(n - 1);;")
	e := of(api.EAdd, api.Expr{Op: api.ECall, I: 1, L: []api.Expr{num("19")}}, api.Expr{Op: api.ECall})
	if got, err := reduced(t, l, e, api.MaxFuel); err != api.OK || got.N != strconv.Itoa(1<<19) {
		t.Errorf("P19.1: %+v, %v of MaxFuel calls", got, err)
	}
	if _, err := reduced(t, l, e, api.MaxFuel-1); err != api.ErrFuel {
		t.Errorf("P19.1: %v with fuel one less", err)
	}
	if _, err := reduced(t, l, of(api.EAdd, e, api.Expr{Op: api.ECall}), 1<<63-1); err != api.ErrFuel {
		t.Errorf("P19.1: %v of MaxFuel calls and one", err)
	}
}

// TestManyExpressions asks for many calls within one another of a body that isn't small.
func TestManyExpressions(t *testing.T) {
	t.Parallel()
	l := checked(t, "let rec f (n : int) : Pure int decreases n is if n <= 0 then 1 else if "+strings.Repeat("true && ", 1800)+"true then f(n - 1) else 0;;")
	got, err := reduced(t, l, api.Expr{Op: api.ECall, L: []api.Expr{num("9999")}}, api.MaxFuel)
	if err != api.OK || got.N != "1" {
		t.Errorf("P19.1: %+v, %v", got, err)
	}
}

// TestCallsWithinOneAnother asks for 10000 of them, and for one more.
func TestCallsWithinOneAnother(t *testing.T) {
	t.Parallel()
	for _, step := range []string{"f(n - 1)", "-f(n - 1)", "1 + f(n - 1)", "let v = f(n - 1) in v", "let v = n - 1 in f(v)", "1; f(n - 1)", "f(n - 1); 1", "if f(n - 1) = 1 then 1 else 0", "if true then f(n - 1) else 0", "if true && f(n - 1) = 1 then 1 else 0", "f(n - 1) + f(0)", "f(0) + f(n - 1)"} {
		l := checked(t, "let rec f (n : int) : Pure int decreases n is if n <= 0 then 0 else ("+step+");;")
		for n, want := range map[int]api.Errno{9999: api.OK, 10000: api.ErrFuel, 1 << 40: api.ErrFuel} {
			call := api.Expr{Op: api.ECall, L: []api.Expr{num(strconv.Itoa(n))}}
			if _, err := reduced(t, l, call, api.MaxFuel); err != want {
				t.Errorf("P19.1: %s: %v of %d calls", step, err, n+1)
			}
			if _, err := reduced(t, l, of(api.EAdd, call, call), api.MaxFuel); err != want {
				t.Errorf("P19.1: %s: %v of %d calls, twice", step, err, n+1)
			}
		}
	}
	l := checked(t, "let rec f (n : int) : Pure int decreases n is if n <= 0 then 0 else f(n - 1);; let g (n : int) : Pure int is f(n);;")
	for n, want := range map[string]api.Errno{"9998": api.OK, "9999": api.ErrFuel} {
		if _, err := reduced(t, l, api.Expr{Op: api.ECall, I: 1, L: []api.Expr{num(n)}}, api.MaxFuel); err != want {
			t.Errorf("P19.1: %v of a call, and f of %s within it", err, n)
		}
	}
}

// steps: ways in which one expression stands within another (%), of ints and of truths.
var steps = map[string][]string{
	"int":  {"-%", "(1 + %)", "(% - 1)", "(1 * %)", "(let v = 1 in %)", "(let v = % in v)", "(let v = % in -v)", "(1; %)", "(%; 1)", "(if true then % else 0)", "(if false then 0 else %)", "(if % = 0 then 0 else 1)", "minus(0, %)", "minus(%, -1)", "pick(%, false, 1)"},
	"bool": {"not %", "(true && %)", "(% && true)", "(false || %)", "(% || false)", "(true ==> %)", "(% ==> false)", "(% = true)", "(true <> %)", "same(%)"},
}

// TestExpressionsWithinOneAnother asks for 100000 of them, and for one more, with less than 10000 calls.
func TestExpressionsWithinOneAnother(t *testing.T) {
	for kind, l := range steps {
		for _, step := range l {
			t.Run(step, func(t *testing.T) {
				t.Parallel()
				bounded(t, kind, step)
			})
		}
	}
}

func bounded(t *testing.T, kind, step string) {
	end := map[string]string{"int": "-v", "bool": "not v"}[kind]
	for _, v := range map[string][]string{"int": {"3", "-3"}, "bool": {"true"}}[kind] {
		body := "f(n - 1, v)"
		for range 20 {
			body = strings.ReplaceAll(step, "%", body)
		}
		l := checked(t, prelude+"let rec f (n : int) (v : "+kind+") : Pure "+kind+" decreases n is if n <= 0 then "+end+" else "+body+";;")
		value := num(v)
		if kind == "bool" {
			value = api.Expr{Op: api.EBool, B: true}
		}
		defs := definitions(l)
		call := func(n, outer int) api.Expr { // so many operators outside of it
			e := api.Expr{Op: api.ECall, I: len(defs) - 1, L: []api.Expr{num(strconv.Itoa(n)), value}}
			for range outer {
				e = of(map[string]int{"int": api.ENeg, "bool": api.ENot}[kind], e)
			}
			return e
		}
		measured := func(n int) int { // how deep it is
			p := &plain{defs: defs, fuel: api.MaxFuel}
			if _, ok := p.tell(call(n, 0)); !ok || p.mostCalls > n+11 {
				t.Errorf("%s: the test itself takes too many calls", step)
			}
			return p.deepest
		}
		ten, each := measured(10), measured(11)-measured(10)
		n := 10 + (100000-ten)/each
		for _, deepest := range []int{100000, 100001} {
			e := call(n, deepest-ten-(n-10)*each)
			if _, err := reduced(t, l, e, api.MaxFuel); (err == api.OK) != (deepest == 100000) {
				t.Errorf("P19.1: %s: %v of %d expressions within one another", step, err, deepest)
			}
		}
	}
}

// wide tells a sum of variables that has so many operators (an odd number).
func wide(operators int) api.Expr {
	if operators == 1 {
		return api.Expr{Op: api.EVar, I: 5}
	}
	left := operators / 4 * 2
	if left%2 == 0 {
		left++
	}
	if left > operators-2 {
		left = operators - 2
	}
	return of(api.EAdd, wide(left), wide(operators-1-left))
}

// TestOperatorsOfTheAnswer asks for MaxNodes of them, and for one more.
func TestOperatorsOfTheAnswer(t *testing.T) {
	t.Parallel()
	yes, no := api.Expr{Op: api.EBool, B: true}, api.Expr{Op: api.EBool}
	ask := api.Expr{Op: api.EEq, L: []api.Expr{{Op: api.EVar}, num("0")}}
	for _, around := range []func(api.Expr) api.Expr{
		func(e api.Expr) api.Expr { return e },
		func(e api.Expr) api.Expr { return of(api.EAdd, e, num("1")) },
		func(e api.Expr) api.Expr { return of(api.EAdd, num("-1"), e) },
		func(e api.Expr) api.Expr { return of(api.ESub, e, of(api.EAdd, num("1"), num("-3"))) },
		func(e api.Expr) api.Expr { return of(api.EIf, yes, e, wide(70001)) },
		func(e api.Expr) api.Expr { return of(api.EIf, no, wide(70001), e) },
		func(e api.Expr) api.Expr { return of(api.EIf, ask, e, num("-2")) },
		func(e api.Expr) api.Expr {
			return of(api.EIf, of(api.EAnd, no, of(api.EEq, wide(70001), e)), num("1"), e)
		},
		func(e api.Expr) api.Expr { return of(api.ELet, num("-1"), e) },
		func(e api.Expr) api.Expr { return of(api.ELet, e, num("-1")) },
		func(e api.Expr) api.Expr { return of(api.ELet, num("-1"), of(api.EAdd, e, api.Expr{Op: api.EVar})) },
		func(e api.Expr) api.Expr { return of(api.ESeq, num("-1"), e) },
		func(e api.Expr) api.Expr { return of(api.ESeq, e, num("-1")) },
		func(e api.Expr) api.Expr { return of(api.ETry, num("-1"), e) },
		func(e api.Expr) api.Expr { return of(api.ERaise, e) },
		func(e api.Expr) api.Expr { return api.Expr{Op: api.EWrite, L: []api.Expr{e}} },
		func(e api.Expr) api.Expr { return of(api.ECall, e, num("-1"), num("0")) },
		func(e api.Expr) api.Expr { return of(api.EAdd, e, api.Expr{Op: api.ERead}) },
		func(e api.Expr) api.Expr {
			return of(api.EAdd, e, of(api.ESeq, of(api.EAssert, yes), api.Expr{Op: api.ECall, I: 1}))
		},
	} {
		l := checked(t, "let f (a : int) (b : int) (c : int) : Pure int is a;; let g : Pure int is assert 1 = 2; -1;;")
		plainly := func(e api.Expr) api.Expr {
			out, _ := (&plain{defs: definitions(l), fuel: 9}).tell(e)
			return out
		}
		more := size(plainly(around(wide(9)))) - 9
		for many := api.MaxNodes - 2; many <= api.MaxNodes+2; many++ {
			inner := of(api.ENeg, wide((many-more-1)|1))
			if (many-more)%2 == 1 {
				inner = wide(many - more)
			}
			e := around(inner)
			got, err := reduced(t, l, e, 9)
			if (err == api.OK) != (many <= api.MaxNodes) || err == api.OK && size(got) != many {
				t.Errorf("P19.1: %v of an answer with %d operators", err, many)
			}
			if many == api.MaxNodes && !equal(got, plainly(e)) {
				t.Errorf("P19.1: not what an answer with %d operators is", many)
			}
		}
	}
}

// TestManyValues asks for what has many operators, all of which become one value.
func TestManyValues(t *testing.T) {
	e := num("1")
	for range 17 {
		e = of(api.EAdd, e, e)
	}
	if got, err := reduced(t, nil, e, 0); err != api.OK || got.N != strconv.Itoa(1<<17) {
		t.Errorf("P19.1: %+v, %v", got, err)
	}
}

// TestGreatNumbers asks for numbers of some thousand digits.
func TestGreatNumbers(t *testing.T) {
	l := checked(t, "let rec pow (n : int) : Pure int decreases n is if n <= 0 then 1 else -3 * pow(n - 1);; let rec sum (n : int) (a : int) : Pure int decreases n is if n <= 0 then a else sum(n - 1, a + a);;")
	for _, n := range []int64{9, 10, 999, 5000} {
		p := new(big.Int).Exp(big.NewInt(-3), big.NewInt(n), nil)
		got, err := reduced(t, l, api.Expr{Op: api.ECall, L: []api.Expr{num(strconv.FormatInt(n, 10))}}, 10000)
		if err != api.OK || bigOf(got).Cmp(p) != 0 || !isValue(got) {
			t.Errorf("P19.1: %d: %v", n, err)
		}
		p.Mul(p, new(big.Int).Exp(big.NewInt(2), big.NewInt(n), nil))
		got, err = reduced(t, l, api.Expr{Op: api.ECall, I: 1, L: []api.Expr{num(strconv.FormatInt(n, 10)), got}}, 10000)
		if err != api.OK || bigOf(got).Cmp(p) != 0 || !isValue(got) {
			t.Errorf("P19.1: %d: %v", n, err)
		}
	}
}
