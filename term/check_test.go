package term

import (
	"strings"
	"testing"

	"avow/api"
)

type checkCase struct {
	t    api.Term
	sort int
	e    api.Errno
}

func runChecks(t *testing.T, sig []api.Fun, cases []checkCase) {
	t.Helper()
	for i, z := range cases {
		if s, e := Check(sig, z.t); s != z.sort || e != z.e {
			t.Errorf("P3.1: %d: Check of %.100s: %d, %v, wanted %d, %v", i, Text(z.t), s, e, z.sort, z.e)
		}
		// Fields that an operator doesn't name say nothing.
		if s, e := Check(sig, garbage(z.t)); s != z.sort || e != z.e {
			t.Errorf("P3.1: %d: Check of %.100s, with other fields: %d, %v, wanted %d, %v", i, Text(z.t), s, e, z.sort, z.e)
		}
	}
}

const (
	form = api.ErrTermForm
	sort = api.ErrTermSort
	name = api.ErrTermName
	deep = api.ErrTermDeep
	many = api.ErrTermMany
)

func TestCheckOfEachOperator(t *testing.T) {
	a, p, o := app("a"), app("p"), app("o")
	i, b, obj := api.SortInt, api.SortBool, api.SortObj
	with := func(t api.Term, l ...api.Term) api.Term { t.L = l; return t }
	runChecks(t, sigOf(), []checkCase{
		{number("0"), i, 0}, {number("-5"), i, 0}, {number(strings.Repeat("9", 500)), i, 0},
		{number(""), 0, form}, {number("-"), 0, form}, {number("-0"), 0, form}, {number("05"), 0, form}, {number("+5"), 0, form}, {number("5x"), 0, form}, {number(" 5"), 0, form}, {number("٣"), 0, form}, {with(number("5"), a), 0, form},
		{op(api.TTrue), b, 0}, {op(api.TTrue, p), 0, form}, {op(api.TFalse), b, 0}, {op(api.TFalse, p), 0, form},
		{op(api.TNot, p), b, 0}, {op(api.TNot), 0, form}, {op(api.TNot, p, p), 0, form}, {op(api.TNot, a), 0, sort}, {op(api.TNot, o), 0, sort},
		{op(api.TAnd), b, 0}, {op(api.TAnd, p), b, 0}, {op(api.TAnd, p, p, p), b, 0}, {op(api.TAnd, a), 0, sort}, {op(api.TAnd, p, p, o), 0, sort},
		{op(api.TOr), b, 0}, {op(api.TOr, p), b, 0}, {op(api.TOr, p, p, p), b, 0}, {op(api.TOr, a), 0, sort}, {op(api.TOr, p, o, p), 0, sort},
		{op(api.TImp, p, p), b, 0}, {op(api.TImp), 0, form}, {op(api.TImp, p), 0, form}, {op(api.TImp, p, p, p), 0, form}, {op(api.TImp, a, p), 0, sort}, {op(api.TImp, p, a), 0, sort},
		{op(api.TIff, p, p), b, 0}, {op(api.TIff, p), 0, form}, {op(api.TIff, p, p, p), 0, form}, {op(api.TIff, a, a), 0, sort}, {op(api.TIff, p, o), 0, sort},
		{op(api.TEq, a, a), b, 0}, {op(api.TEq, p, p), b, 0}, {op(api.TEq, o, o), b, 0}, {op(api.TEq), 0, form}, {op(api.TEq, a), 0, form}, {op(api.TEq, a, a, a), 0, form}, {op(api.TEq, a, p), 0, sort}, {op(api.TEq, o, a), 0, sort}, {op(api.TEq, p, o), 0, sort},
		{op(api.TLe, a, a), b, 0}, {op(api.TLe, a), 0, form}, {op(api.TLe, a, a, a), 0, form}, {op(api.TLe, p, p), 0, sort}, {op(api.TLe, a, o), 0, sort},
		{op(api.TLt, a, a), b, 0}, {op(api.TLt, a), 0, form}, {op(api.TLt, a, a, a), 0, form}, {op(api.TLt, o, o), 0, sort}, {op(api.TLt, p, a), 0, sort},
		{op(api.TAdd), i, 0}, {op(api.TAdd, a), i, 0}, {op(api.TAdd, a, a, a), i, 0}, {op(api.TAdd, p), 0, sort}, {op(api.TAdd, a, a, o), 0, sort},
		{op(api.TSub, a, a), i, 0}, {op(api.TSub), 0, form}, {op(api.TSub, a), 0, form}, {op(api.TSub, a, a, a), 0, form}, {op(api.TSub, a, p), 0, sort}, {op(api.TSub, o, a), 0, sort},
		{op(api.TNeg, a), i, 0}, {op(api.TNeg), 0, form}, {op(api.TNeg, a, a), 0, form}, {op(api.TNeg, p), 0, sort},
		{op(api.TMul, number("3"), a), i, 0}, {op(api.TMul, number("3"), number("4")), i, 0}, {op(api.TMul), 0, form}, {op(api.TMul, number("3")), 0, form}, {op(api.TMul, number("3"), a, a), 0, form}, {op(api.TMul, a, number("3")), 0, form}, {op(api.TMul, op(api.TNeg, number("3")), a), 0, form}, {op(api.TMul, number("03"), a), 0, form}, {op(api.TMul, number("3"), p), 0, sort},
		{op(api.TIte, p, a, a), i, 0}, {op(api.TIte, p, p, p), b, 0}, {op(api.TIte, p, o, o), obj, 0}, {op(api.TIte), 0, form}, {op(api.TIte, p, a), 0, form}, {op(api.TIte, p, a, a, a), 0, form}, {op(api.TIte, a, a, a), 0, sort}, {op(api.TIte, p, a, o), 0, sort}, {op(api.TIte, p, p, a), 0, sort}, {op(api.TIte, o, p, p), 0, sort},
		{a, i, 0}, {p, b, 0}, {o, obj, 0}, {app("h", a, p), b, 0}, {app("zz"), 0, name}, {app("zz", a), 0, name}, {app("f"), 0, form}, {app("f", a, a), 0, form}, {app("a", a), 0, form}, {app("f", o), 0, sort}, {app("h", p, a), 0, sort}, {app("h", a, a), 0, sort},
		{intVar("x"), 0, name}, {with(intVar("x"), a), 0, form}, {sortedVar("", i), 0, form}, {sortedVar("x", 0), 0, name},
		{api.Term{}, 0, form}, {op(-1), 0, form}, {op(api.TAll + 1), 0, form}, {op(1 << 40), 0, form}, {op(99, a), 0, form},
	})
	runChecks(t, nil, []checkCase{{a, 0, name}, {number("1"), i, 0}})
}

func TestCheckTakesTheFirstError(t *testing.T) {
	a, p, zz := app("a"), app("p"), app("zz")
	badForm, badSort := op(api.TNot), op(api.TNot, a)
	runChecks(t, sigOf(), []checkCase{
		// Of several operands the left one's error, ahead of all sorts.
		{op(api.TAnd, badForm, badSort), 0, form},
		{op(api.TAnd, badSort, badForm), 0, sort},
		{op(api.TAnd, zz, badForm), 0, name},
		{op(api.TAnd, a, badForm), 0, form},
		{op(api.TAnd, a, p, zz), 0, name},
		{op(api.TEq, a, op(api.TEq, p, zz)), 0, name},
		{op(api.TIte, a, p, zz), 0, name},
		{op(api.TIte, a, zz, badForm), 0, name},
		{app("f", zz), 0, name},
		{app("h", p, badForm), 0, form},
		{op(api.TMul, number("x"), zz), 0, form},
		{op(api.TMul, number("1"), zz), 0, name},
		// An own shape ahead of all operands.
		{op(api.TImp, badSort), 0, form},
		{op(api.TNot, zz, zz), 0, form},
		{op(api.TMul, zz, a), 0, form},
		{op(99, zz), 0, form},
		{app("f", zz, zz), 0, form},
		{app("zz", badForm), 0, name},
		{app("zz", badSort, badSort), 0, name},
		{app("not", badSort), 0, form},
		{all(nil, zz, app("f", intVar("x"))), 0, form},
		{all(bounds(api.SortInt, "x"), zz), 0, form},
		{all(bounds(api.SortInt, "not"), zz, app("f", intVar("x"))), 0, form},
		{all(bounds(api.SortInt, "x", "x"), zz, app("f", intVar("x"))), 0, form},
		{all(bounds(9, "x"), zz, app("f", intVar("x"))), 0, form},
		// Depth, then size, ahead of all else.
		{op(api.TAnd, badForm, chain(api.TNot, api.MaxDepth-2, badForm)), 0, form},
		{op(api.TAnd, badForm, chain(api.TNot, api.MaxDepth-1, badForm)), 0, deep},
		{op(api.TAnd, badForm, fan(api.TAnd, api.MaxNodes-3, badForm)), 0, form},
		{op(api.TAnd, badForm, fan(api.TAnd, api.MaxNodes-2, badForm)), 0, many},
		{op(api.TAnd, fan(api.TAnd, api.MaxNodes, badForm), chain(api.TNot, api.MaxDepth, badForm)), 0, deep},
	})
}

func TestCheckOfLimits(t *testing.T) {
	i, b := api.SortInt, api.SortBool
	x := bounds(i, "x")
	fx := app("f", intVar("x"))
	// under tells a pattern so deep, or so great.
	under := func(so int) api.Term { return app("f", chain(api.TNeg, so-2, intVar("x"))) }
	great := func(so int) api.Term { return app("f", fan(api.TAdd, so-2, intVar("x"))) }
	runChecks(t, sigOf(), []checkCase{
		{chain(api.TNeg, api.MaxDepth-1, app("a")), i, 0},
		{chain(api.TNeg, api.MaxDepth, app("a")), 0, deep},
		{chain(api.TNeg, 9999, app("a")), 0, deep},
		{fan(api.TAdd, api.MaxNodes-1, app("a")), i, 0},
		{fan(api.TAdd, api.MaxNodes, app("a")), 0, many},
		{fan(api.TAdd, api.MaxNodes/2, op(api.TNeg, app("a"))), 0, many},
		{fan(api.TAdd, api.MaxNodes/2-1, op(api.TNeg, app("a"))), i, 0},
		// A pattern counts for itself alone.
		{all(x, app("p"), under(api.MaxDepth)), b, 0},
		{chain(api.TNot, api.MaxDepth-2, all(x, app("p"), under(api.MaxDepth))), b, 0},
		{chain(api.TNot, api.MaxDepth-1, all(x, app("p"), under(api.MaxDepth))), 0, deep},
		{all(x, app("p"), under(api.MaxDepth+1)), 0, deep},
		{all(x, app("p"), great(api.MaxNodes)), b, 0},
		{all(x, app("p"), great(api.MaxNodes), great(api.MaxNodes)), b, 0},
		{all(x, app("p"), great(api.MaxNodes+1)), 0, many},
		{all(x, app("p"), app("k", chain(api.TNot, api.MaxDepth, fx), great(api.MaxNodes))), 0, deep},
		{all(x, app("p"), chain(api.TNot, api.MaxDepth, fx)), 0, deep},
		{all(x, app("p"), fan(api.TAnd, api.MaxNodes, fx)), 0, many},
	})
}

func TestCheckOfSigs(t *testing.T) {
	i, b, o := api.SortInt, api.SortBool, api.SortObj
	sig := []api.Fun{
		{Name: "f", Args: []int{i}, Out: i}, {Name: "f", Args: []int{b}, Out: b}, {Name: "f", Out: o},
		{Name: "c", Out: b}, {Name: "c", Out: i},
		{Name: "odd", Out: 4}, {Name: "none"}, {Name: "less", Out: -1}, {Name: "in", Args: []int{9}, Out: i}, {Name: "out", Args: []int{i}, Out: 9},
		{Name: "ite", Out: i}, {Name: "", Out: i}, {Name: "x y", Out: i},
		{Name: "zz", Args: []int{o, o, o}, Out: i},
	}
	one := number("1")
	runChecks(t, sig, []checkCase{
		{app("f", one), i, 0}, {app("f", op(api.TTrue)), 0, sort}, {app("f"), 0, form}, {app("c"), b, 0},
		{app("odd"), 0, sort}, {app("none"), 0, sort}, {app("less"), 0, sort}, {app("in", one), 0, sort}, {app("out", one), 0, sort}, {app("out", app("no")), 0, name}, {app("in", app("no")), 0, name},
		{app("in"), 0, form}, {op(api.TEq, app("odd"), app("odd")), 0, sort},
		{app("ite"), 0, form}, {app(""), 0, form}, {app("x y"), 0, form}, {app("zz", one, one), 0, form}, {app("zz", one, one, one), 0, sort},
	})
}

func TestCheckOfWords(t *testing.T) {
	longest := strings.Repeat("n", api.MaxName)
	right := []string{"a", "z", "A", "Z", "_", "__", "a1", "_0", "x9y", "And", "TRUE", "integer", "no", "nots", "orr", "i", "fun", "let", longest, "_" + strings.Repeat("9", api.MaxName-1)}
	wrong := []string{"", " ", "1", "1a", "-", "a-b", "a b", " a", "a ", "a.b", "(f a)", "é", "aé", "a\x00", "\xff", "a\xff", "ſ", "К", "x'", "#0", "@", "[", "`", "{", "a@", "a[", "a`", "a{", "a/", "a:", longest + "n", strings.Repeat("é", 20),
		"not", "and", "or", "iff", "ite", "neg", "forall", "pattern", "true", "false", "int", "bool", "obj"}
	try := func(word string, fun, free, bound api.Errno) {
		t.Helper()
		sig := []api.Fun{{Name: word, Out: api.SortInt}, {Name: "f", Args: []int{api.SortInt}, Out: api.SortInt}}
		v := intVar(word)
		for i, z := range []struct {
			t api.Term
			e api.Errno
		}{{app(word), fun}, {v, free}, {all(bounds(api.SortInt, word), op(api.TLe, v, v), app("f", v)), bound}, {all(bounds(api.SortInt, "x", word), op(api.TTrue), app("f", intVar("x")), app("f", v)), bound}} {
			if _, e := Check(sig, z.t); e != z.e {
				t.Errorf("P3.1: the name %q, %d: %v, wanted %v", word, i, e, z.e)
			}
		}
	}
	for _, word := range right {
		try(word, api.OK, name, api.OK)
	}
	for _, word := range wrong {
		try(word, form, form, form)
	}
	if _, e := Check(nil, app(longest)); e != name {
		t.Errorf("P3.1: a name of MaxName bytes that no function has: %v", e)
	}
}

func TestCheckOfBinders(t *testing.T) {
	i, b, o := api.SortInt, api.SortBool, api.SortObj
	p, x, fx, gx, rx := app("p"), bounds(i, "x"), app("f", intVar("x")), app("g", sortedVar("x", o)), app("r", sortedVar("x", b))
	le := op(api.TLe, number("0"), fx)
	two := api.Term{Op: api.TAll, Vars: x, Pat: []api.Term{fx}, L: []api.Term{p, p}}
	runChecks(t, sigOf(), []checkCase{
		{all(x, le, fx), b, 0}, {all(bounds(o, "x"), op(api.TEq, gx, gx), gx), b, 0}, {all(bounds(b, "x"), sortedVar("x", b), rx), b, 0},
		{all(bounds(i, "f"), op(api.TEq, app("f", intVar("f")), intVar("f")), app("f", intVar("f"))), b, 0},
		{all(nil, p, app("a")), 0, form}, {all(x, p), 0, form}, {two, 0, form}, {api.Term{Op: api.TAll, Vars: x, Pat: []api.Term{fx}}, 0, form},
		{all(bounds(0, "x"), p, fx), 0, form}, {all(bounds(4, "x"), p, fx), 0, form}, {all(bounds(-1, "x"), p, fx), 0, form},
		{all([]api.Bound{{Name: "x", Sort: i}, {Name: "x", Sort: o}}, p, fx), 0, form}, {all(bounds(i, "x", "y", "x"), p, fx, app("f", intVar("y"))), 0, form},
		// The body: its errors, and its sort.
		{all(x, fx, fx), 0, sort}, {all(x, app("zz"), fx), 0, name}, {all(x, op(api.TNot), fx), 0, form}, {all(x, op(api.TNot, fx), fx), 0, sort},
		{all(x, op(api.TLe, intVar("y"), fx), fx), 0, name}, {all(x, op(api.TEq, sortedVar("x", o), app("o")), fx), 0, sort}, {all(x, op(api.TEq, sortedVar("x", 0), app("o")), fx), 0, sort}, {all(x, op(api.TEq, sortedVar("x", 4), app("o")), fx), 0, sort},
		// The innermost binder counts, and none beyond its end.
		{all(x, all(bounds(o, "x"), op(api.TEq, gx, gx), gx), fx), b, 0},
		{all(x, all(bounds(o, "x"), le, gx), fx), 0, sort},
		{all(x, op(api.TAnd, all(bounds(o, "x"), p, gx), le), fx), b, 0},
		{all(bounds(o, "x"), op(api.TAnd, all(x, le, fx), op(api.TEq, gx, gx)), gx), b, 0},
		{op(api.TAnd, all(x, le, fx), le), 0, name},
		{all(x, all(bounds(i, "y"), op(api.TLe, intVar("x"), intVar("y")), app("f", op(api.TAdd, intVar("x"), intVar("y")))), fx), b, 0},
		{all(x, all(bounds(i, "y"), op(api.TLe, intVar("x"), intVar("y")), fx), fx), 0, form},
		{op(api.TNot, all(x, le, fx)), b, 0}, {op(api.TEq, all(x, le, fx), p), b, 0}, {op(api.TNeg, all(x, le, fx)), 0, sort},
	})
}

func TestCheckOfPatterns(t *testing.T) {
	i, b, o := api.SortInt, api.SortBool, api.SortObj
	p, v, x, fx := app("p"), intVar("x"), bounds(i, "x"), app("f", intVar("x"))
	fy := app("f", intVar("y"))
	in := func(t api.Term) api.Term { return app("f", op(api.TAdd, v, t)) }
	cases := []checkCase{
		{all(x, p, fx), b, 0}, {all(x, p, fx, fx), b, 0}, {all(x, p, app("f", fx)), b, 0}, {all(x, p, app("k", v, app("o"))), b, 0},
		{all(x, p, in(number("1"))), b, 0}, {all(x, p, in(op(api.TAdd))), b, 0}, {all(x, p, in(op(api.TSub, v, v))), b, 0}, {all(x, p, in(op(api.TNeg, v))), b, 0}, {all(x, p, in(op(api.TMul, number("2"), v))), b, 0},
		{all(x, p, app("r", app("h", v, p))), b, 0},
		// It must be an application.
		{all(x, p, v), 0, form}, {all(x, p, number("1")), 0, form}, {all(x, p, op(api.TAdd, fx)), 0, form}, {all(x, p, op(api.TNeg, fx)), 0, form}, {all(x, p, api.Term{}), 0, form}, {all(x, p, fx, v), 0, form},
		{all(x, p, app("r", all(x, p, fx))), 0, form},
		// Together they name each variable.
		{all(x, p, app("a")), 0, form}, {all(x, p, app("a"), fx), b, 0}, {all(bounds(i, "x", "y"), p, fx), 0, form}, {all(bounds(i, "x", "y"), p, fy), 0, form}, {all(bounds(i, "x", "y"), p, fx, fy), b, 0}, {all(bounds(i, "x", "y"), p, app("f", op(api.TSub, v, intVar("y")))), b, 0},
		// Wrong as terms.
		{all(x, p, app("zz", v)), 0, name}, {all(x, p, fy), 0, name}, {all(x, p, app("f", v, v)), 0, form}, {all(x, p, app("g", v)), 0, sort}, {all(x, p, app("f", sortedVar("x", o))), 0, sort}, {all(x, p, in(number("01"))), 0, form}, {all(x, p, in(op(api.TMul, v, v))), 0, form}, {all(x, p, app("not", v)), 0, form},
		// The first error: behind the body, pattern by pattern, names of variables at last.
		{all(x, app("zz"), v), 0, name}, {all(x, fx, v), 0, sort}, {all(x, p, app("zz"), v), 0, name}, {all(x, p, v, app("zz")), 0, form}, {all(x, p, app("zz", op(api.TTrue))), 0, form}, {all(x, p, app("a"), app("zz")), 0, name}, {all(x, p, app("a"), app("g", v)), 0, sort},
		{op(api.TAnd, all(x, p, app("zz")), op(api.TNot)), 0, name}, {op(api.TAnd, app("a"), all(x, p, app("zz"))), 0, name},
		// Variables that are bound around the TAll may stand in its patterns, those that are bound within may not.
		{all(x, all(bounds(i, "y"), p, app("k", fy, app("o")), fx), fx), b, 0}, {all(x, all(bounds(i, "y"), p, fy), fy), 0, name},
	}
	for _, o := range []int{api.TTrue, api.TFalse, api.TNot, api.TAnd, api.TOr, api.TImp, api.TIff, api.TEq, api.TLe, api.TLt, api.TIte, api.TAll, 0, 99} {
		right := map[int]api.Term{api.TNot: op(o, p), api.TImp: op(o, p, p), api.TIff: op(o, p, p), api.TEq: op(o, v, v), api.TLe: op(o, v, v), api.TLt: op(o, v, v), api.TIte: op(o, p, p, p), api.TAll: all(bounds(i, "z"), p, app("f", intVar("z")))}[o]
		right.Op = o
		cases = append(cases, checkCase{all(x, p, app("h", v, right)), 0, form}, checkCase{all(x, p, app("h", app("f", app("r", right)), p), fx), 0, form}, checkCase{all(x, p, app("zz", v, right)), 0, form})
	}
	runChecks(t, sigOf(), cases)
}
