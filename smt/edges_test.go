package smt

import (
	"slices"
	"strconv"
	"testing"

	"avow/api"
)

// nested tells a number of this depth.
func nested(t api.Term, depth int) api.Term {
	for range depth - 1 {
		t = app("f", t)
	}
	return t
}

// TestEdges: formulas as great and as deep as they may be, of which lines would be too great or too deep.
func TestEdges(t *testing.T) {
	a, b, p := app("a"), app("b"), app("p")
	sum := func(n int, of api.Term) api.Term { return op(api.TAdd, slices.Repeat(terms(of), n)...) }
	wide := func(n int) api.Term { return op(api.TAnd, slices.Repeat(terms(p), n)...) }
	great := api.MaxNodes/2 - 10
	pick := func(n int) api.Term { return op(api.TIte, p, sum(n, a), b) }
	f := func(t api.Term) api.Term { return app("f", t) }
	x := variable("x", ints)
	deep, under := nested(a, api.MaxDepth-2), nested(a, api.MaxDepth-4)
	asksAll(t, "P13.1", []verdictOf{
		{terms(same(sum(great, a), sum(great, b)), not(same(a, b))), api.Unsat}, {terms(less(sum(great, a), sum(great, b)), less(b, a)), api.Unsat}, {terms(not(same(f(sum(great, a)), f(sum(great, b))))), api.Sat},
		{terms(less(pick(9), b), not(p)), api.Unsat}, {terms(less(pick(great*2-20), b), not(p)), api.Unknown}, {terms(less(pick(great*2-20), b)), api.Unknown}, {terms(same(f(pick(great*2-20)), a), not(same(f(pick(9)), b))), api.Unknown},
		{terms(app("hb", wide(2*great)), not(app("hb", yes())), p), api.Unsat}, {terms(app("hb", same(wide(great), wide(great-9))), not(app("hb", yes()))), api.Unsat}, {terms(app("hb", same(yes(), wide(api.MaxNodes-4)))), api.Sat}, {terms(app("hb", same(yes(), wide(2*great))), not(app("hb", yes())), p), api.Unsat},
		{terms(same(deep, nested(b, api.MaxDepth-2)), not(same(a, b))), api.Sat}, {terms(not(same(deep, nested(b, api.MaxDepth-2))), atMost(a, b), atMost(b, a)), api.Unsat}, {terms(app("hi", nested(op(api.TIte, p, a, b), api.MaxDepth-3), p), not(app("hi", nested(a, api.MaxDepth-3), p)), p), api.Unsat}, {terms(app("hb", not(app("hb", same(under, under)))), not(app("hb", op(api.TFalse))), app("hb", yes())), api.Unsat},
		{terms(all(bounds(ints, "x"), less(nested(x, api.MaxDepth-5), a), f(x)), same(f(f(f(f(f(f(f(a))))))), b)), api.Unknown}, {terms(all(bounds(ints, "x"), less(x, a), f(x)), same(deep, b), same(deep, a)), api.Unsat},
	})
}

// TestBounds: what would be beyond what an answer may be isn't told, and isn't made.
func TestBounds(t *testing.T) {
	const n = 6000
	var sig []api.Fun
	var l []api.Term
	for i := range n {
		sig = append(sig, api.Fun{Name: "p" + strconv.Itoa(i), Out: bools})
		if i > 0 {
			l = append(l, op(api.TImp, app(sig[i-1].Name), app(sig[i].Name)))
		}
	}
	l = append(l, app(sig[0].Name), not(app(sig[n-1].Name)))
	if got := askWith(t, sig, l, enough); got != api.Unsat {
		t.Errorf("P13.1: %d", got)
	}
	if got := askWith(t, sig, terms(op(api.TAnd, l...)), enough); got != api.Unknown {
		t.Errorf("P13.1: %d", got)
	}
	// Patterns that share lists are greater than anything.
	vast := app("f", variable("x", ints))
	for range 13 {
		vast = app("d", terms(vast, vast)...)
	}
	forall := all(bounds(ints, "x"), less(app("f", variable("x", ints)), count(0)), slices.Repeat(terms(vast), 500)...)
	if got := ask(t, terms(forall, op(api.TImp, forall, app("p")), not(app("p"))), enough); got != api.Unknown {
		t.Errorf("P13.1: %d", got)
	}
}

// TestManyFormulas: more formulas than package sat takes.
func TestManyFormulas(t *testing.T) {
	var body []api.Term
	x := variable("x", ints)
	for i := range 2000 {
		body = append(body, op(api.TOr, less(x, count(i)), less(count(i), app("f", x))))
	}
	l := terms(all(bounds(ints, "x"), op(api.TAnd, body...), app("f", x)))
	for i := range 30 {
		l = append(l, less(app("f", count(-i)), count(i)))
	}
	if got := ask(t, l, enough); got != api.Unknown {
		t.Errorf("P13.1: %d", got)
	}
}

// TestAnything: terms of any kind, most of which aren't right.
func TestAnything(t *testing.T) {
	m := newMaker(71)
	var any func(deep int) api.Term
	any = func(deep int) api.Term {
		out := api.Term{Op: m.Intn(api.TAll+3) - 1, Name: []string{"a", "p", "f", "x", "g", "", "and"}[m.Intn(7)], Sort: m.Intn(5), N: []string{"1", "-2", "01", ""}[m.Intn(4)]}
		for range m.Intn(4) {
			if deep > 0 {
				out.L = append(out.L, any(deep-1))
			}
		}
		for range m.Intn(3) {
			out.Vars = append(out.Vars, api.Bound{Name: []string{"x", "y", ""}[m.Intn(3)], Sort: m.Intn(5)})
			out.Pat = append(out.Pat, app("f", variable("x", ints)))
		}
		return out
	}
	right := 0
	for range 30000 {
		l := terms(any(m.Intn(3)), m.of(any(m.Intn(2)), app("p")))
		p, e := Solve(sigOf(), l, enough)
		if e == api.OK {
			ask(t, l, enough)
			right++
		} else if p.Verdict != api.Unknown || len(p.Cert) > 0 {
			t.Fatalf("P13.1: %v", p)
		}
	}
	if right < 300 {
		t.Errorf("only %d are right", right)
	}
}
