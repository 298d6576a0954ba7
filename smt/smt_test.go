package smt

import (
	"math"
	"reflect"
	"slices"
	"strconv"
	"strings"
	"testing"

	"avow/api"
	"avow/term"
)

// TestErrors: P13.1: term's first error, in order; then what is no formula; then what is too great together.
func TestErrors(t *testing.T) {
	a, p, zz := app("a"), app("p"), app("zz")
	many := func(n int) api.Term {
		l := make([]api.Term, n-1)
		for i := range l {
			l[i] = yes()
		}
		return op(api.TAnd, l...)
	}
	deep := func(n int) api.Term {
		x := p
		for range n - 1 {
			x = not(x)
		}
		return x
	}
	half := api.MaxNodes / 2
	for i, z := range []struct {
		l    []api.Term
		want api.Errno
	}{
		{terms(a), api.ErrTermSort}, {terms(app("o")), api.ErrTermSort}, {terms(p, a, p), api.ErrTermSort}, {terms(p, p, count(3)), api.ErrTermSort},
		{terms(zz), api.ErrTermName}, {terms(a, zz), api.ErrTermName}, {terms(p, zz, a), api.ErrTermName}, {terms(variable("x", ints)), api.ErrTermName},
		{terms(p, not(a)), api.ErrTermSort}, {terms(zz, op(api.TNot)), api.ErrTermName}, {terms(op(api.TNot), zz), api.ErrTermForm}, {terms(op(0)), api.ErrTermForm}, {terms(op(api.TAnd, make([]api.Term, 3)...)), api.ErrTermForm},
		{terms(app("p", a)), api.ErrTermForm}, {terms(app("a", app("o"))), api.ErrTermForm}, {terms(same(a, p)), api.ErrTermSort}, {terms(all(bounds(ints, "x"), a, app("f", variable("x", ints)))), api.ErrTermSort}, {terms(all(bounds(ints, "x"), p, app("a"))), api.ErrTermForm},
		{terms(deep(api.MaxDepth + 1)), api.ErrTermDeep}, {terms(p, deep(api.MaxDepth+1), zz), api.ErrTermDeep}, {terms(zz, deep(api.MaxDepth+1)), api.ErrTermName}, {terms(a, deep(api.MaxDepth+1)), api.ErrTermDeep},
		{terms(many(api.MaxNodes + 1)), api.ErrTermMany}, {terms(many(api.MaxNodes+1), zz), api.ErrTermMany}, {terms(zz, many(api.MaxNodes+1)), api.ErrTermName},
		{terms(many(half), many(half), p), api.ErrTermMany}, {terms(many(api.MaxNodes), p), api.ErrTermMany}, {terms(many(half), many(half), a), api.ErrTermSort}, {terms(many(half), many(half), p, zz), api.ErrTermName}, {terms(many(half), many(half), deep(api.MaxDepth+1)), api.ErrTermDeep},
		{terms(deep(api.MaxDepth)), api.OK}, {terms(deep(api.MaxDepth), a), api.ErrTermSort}, {terms(many(api.MaxNodes)), api.OK}, {terms(many(half), many(half)), api.OK}, {terms(many(half), many(half-1), p), api.OK},
	} {
		for _, b := range []api.Budget{enough, {}, {Steps: -1, Rounds: -1}} {
			proof, e := Solve(sigOf(), z.l, b)
			if e != z.want || e != api.OK && !reflect.DeepEqual(proof, api.Proof{}) {
				t.Errorf("P13.1: %d: %v, wanted %v", i, e, z.want)
			}
			if e == api.OK && proof.Verdict != api.Sat && b.Steps > 0 {
				t.Errorf("P13.1: %d: %d", i, proof.Verdict)
			}
		}
	}
	singles := slices.Repeat(terms(yes()), api.MaxNodes+1)
	if _, e := Solve(nil, singles, enough); e != api.ErrTermMany {
		t.Errorf("P13.1: %v", e)
	}
	if got := askWith(t, nil, singles[1:], enough); got != api.Sat {
		t.Errorf("P13.1: %d", got)
	}
}

// TestVerdicts: P13.1: of connectives, equations, numbers, and all together.
func TestVerdicts(t *testing.T) {
	a, b, c, p, q, o, u, w := app("a"), app("b"), app("c"), app("p"), app("q"), app("o"), app("u"), app("w")
	f := func(t api.Term) api.Term { return app("f", t) }
	g := func(t api.Term) api.Term { return app("g", t) }
	pick := op(api.TIte, p, a, b)
	asksAll(t, "P13.1", []verdictOf{
		{nil, api.Sat}, {terms(), api.Sat}, {terms(yes()), api.Sat}, {terms(op(api.TFalse)), api.Unsat}, {terms(op(api.TOr)), api.Unsat}, {terms(op(api.TAnd)), api.Sat}, {terms(not(yes())), api.Unsat},
		{terms(p), api.Sat}, {terms(p, not(p)), api.Unsat}, {terms(not(not(p)), not(p)), api.Unsat}, {terms(op(api.TImp, p, q), p, not(q)), api.Unsat}, {terms(op(api.TIff, p, not(p))), api.Unsat}, {terms(op(api.TIff, p, p), p), api.Sat}, {terms(op(api.TOr, p, p), not(p)), api.Unsat},
		{terms(same(p, q), p, not(q)), api.Unsat}, {terms(same(p, q), p, q), api.Sat}, {terms(not(same(p, q)), not(same(q, app("r"))), not(same(p, app("r")))), api.Unsat}, {terms(op(api.TIte, p, q, app("r")), p, not(q)), api.Unsat}, {terms(op(api.TIte, p, q, app("r")), not(q), not(app("r"))), api.Unsat}, {terms(op(api.TIte, p, q, not(q)), p, q), api.Sat},
		{terms(same(o, u), same(u, w), not(same(o, w))), api.Unsat}, {terms(same(o, u), not(same(g(o), g(w)))), api.Sat}, {terms(same(g(g(g(o))), o), same(g(g(g(g(g(o))))), o), not(same(g(o), o))), api.Unsat}, {terms(not(same(o, o))), api.Unsat}, {terms(same(o, u), app("h", o), not(app("h", u))), api.Unsat},
		{terms(same(op(api.TIte, p, o, u), w), not(same(o, w)), not(same(u, w))), api.Unsat}, {terms(same(op(api.TIte, p, o, u), w), not(same(o, w))), api.Sat},
		{terms(less(a, a)), api.Unsat}, {terms(atMost(a, a)), api.Sat}, {terms(less(count(2), count(2))), api.Unsat}, {terms(same(count(2), count(3))), api.Unsat}, {terms(not(same(count(2), count(3)))), api.Sat}, {terms(same(op(api.TAdd), count(0))), api.Sat}, {terms(same(op(api.TAdd), count(1))), api.Unsat}, {terms(not(same(op(api.TAdd, count(1), count(1)), count(2)))), api.Unsat},
		{terms(less(a, b), less(b, c), less(c, op(api.TAdd, a, count(2)))), api.Unsat}, {terms(less(a, b), less(b, c), less(c, op(api.TAdd, a, count(3)))), api.Sat}, {terms(same(op(api.TMul, count(2), a), count(3))), api.Unsat}, {terms(same(op(api.TMul, count(2), a), op(api.TAdd, op(api.TMul, count(4), b), count(1)))), api.Unsat}, {terms(not(same(a, b)), atMost(a, b), atMost(b, a)), api.Unsat}, {terms(not(same(a, b)), atMost(a, b)), api.Sat},
		{terms(same(a, b), less(f(a), f(b))), api.Unsat}, {terms(atMost(a, b), atMost(b, a), not(same(f(a), f(b)))), api.Unsat}, {terms(atMost(a, b), not(same(f(a), f(b)))), api.Sat}, {terms(not(same(f(op(api.TAdd, a, count(1))), f(op(api.TAdd, count(1), a))))), api.Unsat}, {terms(same(f(a), a), same(f(f(a)), b), less(a, b)), api.Unsat}, {terms(same(f(a), count(1)), same(f(b), count(2)), same(a, b)), api.Unsat},
		{terms(atMost(count(1), a), atMost(a, count(2)), not(same(f(a), f(count(1)))), not(same(f(a), f(count(2))))), api.Unsat}, {terms(atMost(count(1), a), atMost(a, count(3)), not(same(f(a), f(count(1)))), not(same(f(a), f(count(2))))), api.Sat},
		{terms(less(pick, a), less(pick, b)), api.Unsat}, {terms(less(pick, b), not(p)), api.Unsat}, {terms(less(pick, b)), api.Sat}, {terms(not(same(f(pick), f(a))), p), api.Unsat}, {terms(same(o, u), less(app("k", o), app("k", u))), api.Unsat},
		{terms(app("hi", a, p), not(app("hi", a, not(not(p))))), api.Unsat}, {terms(app("hi", a, op(api.TAnd, p, q)), not(app("hi", a, op(api.TFalse))), not(q)), api.Unsat}, {terms(app("hi", a, op(api.TAnd, p, q)), not(app("hi", a, op(api.TFalse)))), api.Sat},
		{terms(app("hb", same(a, b)), not(app("hb", yes())), atMost(a, b), atMost(b, a)), api.Unsat}, {terms(app("hb", same(o, u)), not(app("hb", op(api.TFalse))), not(same(o, u))), api.Unsat}, {terms(app("hb", same(o, u)), not(app("hb", op(api.TFalse)))), api.Sat}, {terms(app("hb", same(p, q)), not(app("hb", op(api.TIff, p, q)))), api.Unsat},
		{terms(not(app("hb", p)), not(app("hb", not(p))), app("hb", q)), api.Unsat}, {terms(not(same(app("gb", p), app("gb", q))), not(same(app("gb", q), app("gb", app("r")))), not(same(app("gb", p), app("gb", app("r"))))), api.Unsat}, {terms(not(same(app("t", less(a, b)), app("t", not(atMost(b, a)))))), api.Unsat},
	})
}

// TestMixed: P13.1: formulas of any kind: what is told holds, and most are told.
func TestMixed(t *testing.T) {
	m := newMaker(13)
	counts := [3]int{}
	for range 400 {
		counts[ask(t, m.formulas(6, 4), enough)]++
	}
	for range 40 {
		counts[ask(t, m.formulas(50, 4), enough)]++
	}
	if counts[api.Unknown] > 4 || counts[api.Sat] < 40 || counts[api.Unsat] < 20 {
		t.Errorf("P13.1: so many of each verdict: %v", counts)
	}
}

// TestHold: the same for the same, be there what may in fields that say nothing; nothing is changed; answers are new memory, zero in fields that say nothing.
func TestHold(t *testing.T) {
	m := newMaker(14)
	counts := [3]int{}
	for i := range 120 {
		l := m.formulas(1+i%60, 3)
		if i%3 == 0 {
			l = append(l, m.universal())
		}
		p, e := Solve(sigOf(), l, enough)
		sig := append(sigOf(), api.Fun{Name: "spare"})[:len(sigOf())]
		given := garbage(l)
		before := picture(sig, given)
		again, e2 := Solve(sig, given, enough)
		if picture(sig, given) != before {
			t.Fatalf("rule 3: what was handed in was changed\n%s", texts(l))
		}
		if e != e2 || !reflect.DeepEqual(p, again) {
			t.Fatalf("P13.1: %v, %v: unlike answers\n%s", e, e2, texts(l))
		}
		if shared(again, sig, given) {
			t.Fatalf("rule 3: lists of the answer share memory\n%s", texts(l))
		}
		counts[p.Verdict]++
	}
	if counts[api.Sat] < 20 || counts[api.Unsat] < 20 {
		t.Errorf("so many of each verdict: %v", counts)
	}
}

// TestSharedLists: an answer shares none, though what was handed in does.
func TestSharedLists(t *testing.T) {
	y := variable("y", objs)
	l := slices.Repeat(terms(app("h", y)), 2)
	forall := all(bounds(objs, "y"), op(api.TAnd, l...), app("g", y))
	forall.Pat = append(forall.Pat, forall.Pat[0])
	given := terms(op(api.TAnd, forall, forall), op(api.TOr, forall, forall), not(app("h", app("g", app("o")))), app("h", app("g", app("g", app("o")))))
	p, e := Solve(sigOf(), given, enough)
	if e != api.OK || p.Verdict != api.Unsat || shared(p, given) {
		t.Errorf("rule 3: %v, %d", e, p.Verdict)
	}
}

// universal tells a formula for all numbers, or objects.
func (m maker) universal() api.Term {
	x, y := variable("x", ints), variable("y", objs)
	return m.of(
		all(bounds(ints, "x"), less(app("f", x), count(m.Intn(5))), app("f", x)),
		all(bounds(ints, "x"), op(api.TImp, less(x, count(2)), atMost(x, app("f", x))), app("f", x)),
		all(bounds(objs, "y"), same(app("g", y), m.of(y, app("o"), app("m", y, y))), app("g", y)),
		all(bounds(objs, "y"), op(api.TOr, app("h", y), not(app("h", app("g", y)))), app("h", y)),
		all(bounds(objs, "y"), not(app("h", y)), app("g", y)),
	)
}

// TestLong: names whose Texts are too long for rows, and numbers that have too many digits.
func TestLong(t *testing.T) {
	name := strings.Repeat("n", api.MaxName)
	sig := append(sigOf(), api.Fun{Name: name, Args: slices.Repeat([]int{ints}, 6), Out: ints}, api.Fun{Name: name[1:], Out: ints}, api.Fun{Name: name[2:], Out: ints})
	x, y := app(name[1:]), app(name[2:])
	long := func(t api.Term) api.Term { return app(name, t, x, x, x, x, x) }
	pick := op(api.TIte, atMost(long(x), long(y)), op(api.TAdd, x, y), op(api.TSub, x, y))
	great := numeral(strings.Repeat("9", api.MaxDigits+1))
	for i, z := range []verdictOf{
		{terms(same(long(x), long(y)), not(same(x, y))), api.Sat}, {terms(less(long(x), long(y))), api.Sat}, {terms(less(long(x), count(3)), less(count(5), long(y)), atMost(x, y), atMost(y, count(9))), api.Sat},
		{terms(same(long(x), y), less(long(x), count(3)), less(count(5), y)), api.Unsat}, {terms(same(op(api.TAdd, long(x), count(1)), y), same(long(x), x), less(x, count(3)), less(count(5), y)), api.Unsat}, {terms(not(same(long(x), y)), same(long(x), x), atMost(x, y), atMost(y, x)), api.Unsat},
		{terms(less(pick, op(api.TSub, x, y)), less(pick, op(api.TAdd, x, y))), api.Unsat}, {terms(less(pick, op(api.TSub, x, y))), api.Sat},
		{terms(same(x, great), not(same(y, great))), api.Sat}, {terms(same(x, great), same(y, great), not(same(x, y))), api.Unsat}, {terms(same(x, great), same(x, count(1))), api.Unsat},
		// What LineLia can't say isn't told.
		{terms(less(long(x), long(x))), api.Unknown}, {terms(less(long(x), long(y)), same(x, y)), api.Unknown}, {terms(atMost(x, great), atMost(op(api.TAdd, great, count(1)), x)), api.Unknown},
	} {
		if got := askWith(t, sig, z.l, enough); got != z.want {
			t.Errorf("P13.1: %d: %d, wanted %d\n%s", i, got, z.want, texts(z.l))
		}
	}
}

// TestObjectsOfModels: as many objects as a model may have, and one more.
func TestObjectsOfModels(t *testing.T) {
	var sig []api.Fun
	for i := range 1001 {
		sig = append(sig, api.Fun{Name: "o" + strconv.Itoa(i), Out: objs})
	}
	sig = append(sig, api.Fun{Name: "num", Args: []int{objs}, Out: ints})
	var l []api.Term
	for i := range 1001 {
		l = append(l, same(app("num", app(sig[i].Name)), count(i)))
	}
	if got := askWith(t, sig, l[:1000], enough); got != api.Sat {
		t.Errorf("P13.1: of 1000 objects: %d", got)
	}
	if got := askWith(t, sig, l, enough); got != api.Unknown {
		t.Errorf("P13.1: of 1001 objects: %d", got)
	}
}

// endless tells a term whose list contains itself.
func endless(o int) api.Term {
	l := terms(app("a"), app("p"))
	l[1] = api.Term{Op: o, Name: "f", L: l, Vars: bounds(ints, "x"), Pat: l}
	return l[1]
}

// TestEnds: P13.1: it ends, of terms without end, of formulas for all of which there is no end, and with any budget.
func TestEnds(t *testing.T) {
	p := app("p")
	doubled := p
	for range 100 {
		l := terms(doubled, doubled)
		doubled = op(api.TAnd, l...)
	}
	deep := p
	for range 200000 {
		deep = not(deep)
	}
	for i, h := range terms(endless(api.TNot), endless(api.TAnd), endless(api.TApp), endless(api.TAdd), endless(api.TIte), endless(api.TAll), endless(99), doubled, deep) {
		for _, l := range [][]api.Term{terms(h), terms(p, h), terms(all(bounds(ints, "x"), h, app("f", variable("x", ints)))), terms(all(bounds(ints, "x"), p, h))} {
			if proof, e := Solve(sigOf(), l, enough); e == api.OK || !reflect.DeepEqual(proof, api.Proof{}) {
				t.Errorf("P13.1: %d: %v", i, e)
			}
		}
	}
	x := variable("x", ints)
	f := func(t api.Term) api.Term { return app("f", t) }
	more := all(bounds(ints, "x"), less(f(x), f(op(api.TAdd, x, count(1)))), f(x))
	twice := all(bounds(ints, "x"), less(app("d", x, x), op(api.TAdd, app("d", f(x), f(x)), app("d", op(api.TNeg, x), x))), app("d", x, x))
	grows := all(bounds(ints, "x"), op(api.TAnd, less(f(x), app("d", f(f(x)), f(x))), less(f(x), app("d", f(f(op(api.TNeg, x))), f(x)))), f(x))
	start := less(f(count(0)), app("d", count(0), count(0)))
	for i, l := range [][]api.Term{terms(more, start), terms(twice, start), terms(grows, start), terms(more, twice, grows, start)} {
		for _, b := range []api.Budget{{Steps: 30000, Rounds: math.MaxInt}, {Steps: math.MaxInt, Rounds: 2, Fuel: math.MaxInt}, {Steps: math.MinInt, Rounds: math.MinInt, Fuel: math.MinInt}, {Steps: math.MaxInt, Rounds: math.MinInt}} {
			if got := ask(t, l, b); got != api.Unknown {
				t.Errorf("P13.1: %d: %d", i, got)
			}
		}
	}
	if got := ask(t, terms(grows, start), api.Budget{Steps: math.MaxInt, Rounds: math.MaxInt}); got != api.Unknown {
		t.Errorf("P13.1: %d", got)
	}
}

// TestManyPatterns: formulas for all with as many patterns and variables as anyone likes.
func TestManyPatterns(t *testing.T) {
	const n = 20000
	x := variable("x", ints)
	forall := all(bounds(ints, "x"), less(app("f", x), count(1)), slices.Repeat(terms(app("f", x)), n)...)
	l := terms(forall, less(count(0), app("f", count(3))))
	if got := ask(t, l, api.Budget{Steps: 1000000, Rounds: 1}); got != api.Unsat {
		t.Errorf("P13.4: of many patterns: %d", got)
	}
	ask(t, append(l, less(count(0), app("f", count(4)))), enough)
	sig := append(sigOf(), api.Fun{Name: "wide", Args: slices.Repeat([]int{ints}, n), Out: ints})
	names := make([]string, n)
	args := make([]api.Term, n)
	for i := range names {
		names[i] = "x" + strconv.Itoa(i)
		args[i] = variable(names[i], ints)
	}
	wide := all(bounds(ints, names...), less(args[7], args[9]), app("wide", args...))
	of := slices.Repeat(terms(count(1)), n)
	of[7] = count(5)
	if got := askWith(t, sig, terms(wide, same(app("a"), app("wide", of...))), api.Budget{Steps: 1000000, Rounds: 1}); got != api.Unsat {
		t.Errorf("P13.4: of many variables: %d", got)
	}
	if size := term.Size(app("wide", of...)); size != n+1 {
		t.Error(size)
	}
}
