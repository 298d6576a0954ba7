package cert_test

import (
	"strings"
	"testing"

	"avow/api"
)

// nested tells so many TNots around t.
func nested(n int, t api.Term) api.Term {
	for range n {
		t = not(t)
	}
	return t
}

func many(n int, t api.Term) []api.Term {
	out := make([]api.Term, n)
	for i := range out {
		out[i] = t
	}
	return out
}

// TestInput: a given formula alone, if it is one.
func TestInput(t *testing.T) {
	a, p := app("a"), app("p")
	l := terms(p, a, app("zz"), less(a, a), variable("x", bools), not(a), op(api.TImp, p), nested(200, p), op(api.TAnd, many(50000, p)...), all("x", p, app("f", variable("x", ints))), nested(199, p), op(api.TAnd, many(49999, p)...), app("odd"))
	for _, i := range []int{0, 3, 9, 10, 11} {
		takes(t, l, nil, input(i))
	}
	for _, i := range []int{1, 2, 4, 5, 6, 7, 8, 12, 13, -1, 1 << 62, -1 << 63} {
		refuses(t, l, nil, input(i))
	}
	refuses(t, nil, nil, input(0))
	x := input(0)
	x.Clause, x.Terms, x.F = lits(neg(p), pos(less(a, a))), terms(app("zz")), sum("x")
	takes(t, l, nil, x)
}

// TestAtoms: of each kind all atoms of the clause must be formulas.
func TestAtoms(t *testing.T) {
	a, b, p := app("a"), app("b"), app("p")
	pick := ite(p, a, b)
	forall := all("x", atMost(app("f", variable("x", ints)), a), app("f", variable("x", ints)))
	made := atMost(app("f", b), a)
	right := []api.Line{
		input(0), taut(pos(p), neg(p)), taut(pos(not(p)), pos(p)), equality(pos(same(a, a))), arithmetic(sum("1"), neg(less(a, a))), follows(pos(p)),
		inst(lits(neg(forall), pos(made)), b), choice(pick, neg(p), pos(same(pick, a))), three(a, b, pos(same(a, b)), pos(less(a, b)), pos(less(b, a))),
	}
	wrong := terms(a, app("o"), app("zz"), app("p", p), variable("x", bools), not(a), less(a, p), same(a, p), numeral("1"), api.Term{}, op(99), nested(200, p), op(api.TOr, many(50000, p)...), app("odd"), api.Term{Op: api.TAll, L: terms(p)})
	for _, x := range right {
		takes(t, terms(p), [][]api.Lit{{pos(p)}}, x)
		with := x
		for _, w := range wrong {
			with.Clause = append(x.Clause[:len(x.Clause):len(x.Clause)], neg(w))
			refuses(t, terms(p), [][]api.Lit{{pos(p)}}, with)
		}
	}
	for _, kind := range []int{0, 9, -1, 99, 1 << 40} {
		for _, x := range right {
			x.Kind = kind
			refuses(t, terms(p), [][]api.Lit{{pos(p)}}, x)
		}
	}
}

// TestTaut: a literal and its opposite, wherever they stand; else the first literal by its connective.
func TestTaut(t *testing.T) {
	a, b, p, q, r := app("a"), app("b"), app("p"), app("q"), app("r")
	and, or := op(api.TAnd, p, q, r), op(api.TOr, p, q, r)
	imp, iff, eq, pick := op(api.TImp, p, q), op(api.TIff, p, q), same(p, q), ite(p, q, r)
	forall := all("y", app("h", variable("y", objs)), app("h", variable("y", objs)))
	for _, c := range [][]api.Lit{
		{pos(p), neg(p)}, {neg(p), pos(p)}, {pos(a0()), pos(q), neg(q)}, {pos(q), neg(r), pos(p), pos(r)}, {neg(forall), pos(p), pos(forall)}, {pos(less(a, b)), neg(less(a, b))}, {pos(p), pos(p), neg(p)},
		{pos(yes())}, {neg(no())}, {pos(yes()), pos(p), pos(q)}, {neg(no()), neg(yes())},
		{pos(not(p)), pos(p)}, {neg(not(p)), neg(p)}, {pos(not(no()))}, {neg(not(yes()))}, {pos(not(not(p))), pos(not(p))}, {pos(not(less(a, b))), pos(less(a, b))},
		{neg(and), pos(p)}, {neg(and), pos(r)}, {pos(and), neg(p), neg(q), neg(r)}, {pos(and), neg(r), neg(p), neg(q), pos(less(a, b))}, {pos(op(api.TAnd))}, {neg(op(api.TAnd, p, no()))}, {pos(op(api.TAnd, p, yes(), p)), neg(p)},
		{pos(or), neg(p)}, {pos(or), neg(r)}, {neg(or), pos(p), pos(q), pos(r)}, {neg(op(api.TOr))}, {pos(op(api.TOr, p, yes()))}, {neg(op(api.TOr, p, no(), p)), pos(p)},
		{pos(imp), pos(p)}, {pos(imp), neg(q)}, {neg(imp), neg(p), pos(q)}, {pos(op(api.TImp, no(), q))}, {pos(op(api.TImp, p, yes()))}, {neg(op(api.TImp, yes(), no()))},
		{pos(iff), pos(p), pos(q)}, {pos(iff), neg(q), neg(p)}, {neg(iff), pos(p), neg(q)}, {neg(iff), neg(p), pos(q)}, {pos(op(api.TIff, yes(), p)), neg(p)}, {pos(op(api.TIff, p, p)), neg(p)},
		{pos(eq), pos(p), pos(q)}, {pos(eq), neg(q), neg(p)}, {neg(eq), pos(p), neg(q)}, {neg(eq), neg(p), pos(q)}, {neg(same(yes(), no()))}, {pos(same(no(), forall)), pos(forall)},
		{pos(pick), neg(p), neg(q)}, {neg(pick), neg(p), pos(q)}, {pos(pick), pos(p), neg(r)}, {neg(pick), pos(p), pos(r)}, {pos(pick), neg(q), neg(r)}, {neg(pick), pos(r), pos(q)}, {pos(ite(yes(), yes(), q))}, {neg(ite(no(), yes(), q)), pos(q)}, {pos(ite(p, yes(), yes()))},
		{pos(op(api.TOr, and, or)), neg(or)}, {neg(op(api.TAnd, forall, p)), pos(forall)},
		// A literal says that true is false: one of the others is true in any case.
		{pos(not(yes())), pos(yes())}, {pos(op(api.TAnd, no())), neg(no())},
	} {
		takes(t, nil, nil, taut(c...))
	}
	for _, c := range [][]api.Lit{
		{}, {pos(p)}, {neg(p)}, {pos(p), pos(p)}, {pos(p), pos(q)}, {pos(a0()), pos(b0())}, {pos(no())}, {neg(yes())}, {pos(p), pos(yes())}, {pos(no()), pos(yes())},
		{pos(not(p)), neg(p)}, {neg(not(p)), pos(p)}, {pos(not(p))}, {pos(not(yes()))}, {neg(not(no()))}, {pos(not(not(p))), neg(p)},
		{neg(and), neg(p)}, {neg(and)}, {pos(and), neg(p), neg(q)}, {pos(and), pos(p), neg(q), neg(r)}, {neg(op(api.TAnd))}, {pos(p), neg(and)}, {pos(op(api.TAnd, p, no()))}, {pos(op(api.TAnd, p, q, less(a, b))), neg(p), neg(q)},
		{pos(or), pos(p)}, {pos(or)}, {neg(or), pos(p), pos(q)}, {neg(or), neg(p), pos(q), pos(r)}, {pos(op(api.TOr))}, {neg(op(api.TOr, no(), p))},
		{pos(imp), neg(p)}, {pos(imp), pos(q)}, {neg(imp), neg(p)}, {neg(imp), pos(q)}, {neg(imp), pos(p), neg(q)}, {pos(op(api.TImp, p, p))}, {neg(imp), pos(p), pos(q)},
		{pos(iff), pos(p)}, {pos(iff), neg(q)}, {pos(iff), pos(p), neg(q)}, {neg(iff), pos(p), pos(q)}, {pos(op(api.TIff, p, p))},
		{pos(eq), neg(p)}, {pos(eq), neg(p), pos(q)}, {neg(eq), neg(p), neg(q)}, {pos(same(a, a))}, {pos(same(app("o"), app("o")))}, {neg(same(numeral("1"), numeral("2")))},
		{pos(pick), neg(p)}, {pos(pick), neg(q)}, {pos(pick), neg(r)}, {pos(pick), neg(p), neg(r)}, {pos(pick), pos(p), neg(q)}, {neg(pick), neg(q), pos(r)}, {pos(pick), pos(q), neg(r)}, {pos(pick), pos(q), pos(r)}, {pos(ite(p, q, q))},
		{pos(less(a, a))}, {neg(less(a, a))}, {pos(atMost(a, a))}, {pos(forall)}, {neg(forall), pos(app("h", app("o")))}, {pos(op(api.TOr, and, or)), neg(p)},
	} {
		refuses(t, nil, nil, taut(c...))
	}
}

func a0() api.Term { return atMost(app("a"), numeral("0")) }

func b0() api.Term { return atMost(app("b"), numeral("0")) }

// TestSameAtoms: atoms are one where term.Same says so, and not by their texts.
func TestSameAtoms(t *testing.T) {
	x, y := variable("x", ints), variable("y", objs)
	forall := all("y", app("h", y), app("h", y))
	for _, other := range terms(
		all("y", app("h", y), app("h", app("g", y))),
		all("z", app("h", variable("z", objs)), app("h", variable("z", objs))),
		all("y", app("h", y), app("h", y), app("h", y)),
		all("x y", app("h", y), app("h", y), app("f", x)),
		all("y", app("h", app("g", y)), app("h", y)),
	) {
		refuses(t, nil, nil, taut(pos(forall), neg(other)))
		takes(t, nil, nil, taut(pos(other), neg(other)))
		refuses(t, nil, [][]api.Lit{{pos(forall)}, {neg(other)}}, follows())
		takes(t, nil, [][]api.Lit{{pos(other)}, {neg(other)}}, follows())
	}
	other := all("y x", app("h", y), app("h", y), app("f", x))
	refuses(t, nil, nil, taut(pos(all("x y", app("h", y), app("h", y), app("f", x))), neg(other)))
	// In what is ahead there may be anything.
	text := app("x")
	for _, pair := range [][2]api.Term{{text, variable("x", 0)}, {variable("x", 1), variable("x", 2)}, {numeral("1"), app("1")}, {app("f", text), app("f", variable("x", 5))}, {op(98), op(99)}, {op(api.TAnd), app("and")}, {numeral("1"), numeral("01")}, {app("p"), app("p", app("p"))}, {op(api.TSub, numeral("3")), numeral("-3")}, {{Op: api.TAll}, all("x", app("p"))}, {{Op: api.TAll, L: terms(text)}, {Op: api.TAll, Pat: terms(text)}}} {
		refuses(t, nil, [][]api.Lit{{pos(pair[0])}, {neg(pair[1])}}, follows())
		takes(t, nil, [][]api.Lit{{pos(pair[0])}, {neg(pair[0])}}, follows())
		takes(t, nil, [][]api.Lit{{pos(pair[1])}, {neg(pair[1])}}, follows())
	}
	named := api.Term{Op: api.TApp, Name: "p", Sort: 5, N: "x", Vars: []api.Bound{{Name: "x"}}, Pat: terms(text)}
	takes(t, nil, [][]api.Lit{{pos(named)}, {neg(app("p"))}}, follows())
	takes(t, nil, nil, taut(pos(named), neg(app("p"))))
}

// TestInst: the opposite of a formula for all, then what it is of terms.
func TestInst(t *testing.T) {
	a, b, o, x, y := app("a"), app("b"), app("o"), variable("x", ints), variable("y", objs)
	forall := all("x", atMost(app("f", x), a), app("f", x))
	of := func(t api.Term) api.Term { return atMost(app("f", t), a) }
	takes(t, nil, nil, inst(lits(neg(forall), pos(of(b))), b))
	takes(t, nil, nil, inst(lits(neg(forall), pos(of(numeral("-7")))), numeral("-7")))
	takes(t, nil, nil, inst(lits(neg(forall), pos(of(ite(app("p"), a, b)))), ite(app("p"), a, b)))
	for _, line := range []api.Line{
		inst(lits(pos(of(b)), neg(forall)), b), inst(lits(pos(forall), pos(of(b))), b), inst(lits(neg(forall), neg(of(b))), b), inst(lits(neg(forall), pos(of(a))), b),
		inst(lits(neg(forall), pos(of(b)))), inst(lits(neg(forall), pos(of(b))), b, b), inst(lits(neg(forall), pos(of(b))), o), inst(lits(neg(forall)), b), inst(lits(neg(forall), pos(of(b)), pos(of(b))), b), inst(nil, b), inst(nil),
		inst(lits(neg(app("p")), pos(app("p")))), inst(lits(neg(not(forall)), pos(of(b))), b), inst(lits(neg(forall), pos(forall)), x), inst(lits(neg(forall), pos(of(b))), x), inst(lits(neg(forall), pos(of(b))), app("zz")), inst(lits(neg(forall), pos(of(b))), forall),
	} {
		refuses(t, nil, nil, line)
	}
	two := all("x y", same(app("k", y, app("p")), x), app("k", app("g", y), yes0()), app("f", x))
	takes(t, nil, nil, inst(lits(neg(two), pos(same(app("k", o, app("p")), a))), a, o))
	refuses(t, nil, nil, inst(lits(neg(two), pos(same(app("k", o, app("p")), a))), o, a))
	within := all("x", op(api.TOr, less(x, a), forall), app("f", x))
	takes(t, nil, nil, inst(lits(neg(within), pos(op(api.TOr, less(b, a), forall))), b))
	refuses(t, nil, nil, inst(lits(neg(within), pos(op(api.TOr, less(b, a), of(b)))), b))
	truth := api.Term{Op: api.TAll, Vars: []api.Bound{{Name: "t", Sort: bools}}, L: terms(variable("t", bools)), Pat: terms(app("k", o, variable("t", bools)))}
	takes(t, nil, nil, inst(lits(neg(truth), pos(app("p"))), app("p")))
	refuses(t, nil, nil, inst(lits(neg(truth), pos(forall)), forall))
	refuses(t, nil, nil, inst(lits(neg(truth), pos(app("p"))), a))
	// What would be made may be too deep, or too great.
	deep := all("x", nested(150, less(x, a)), app("f", x))
	far := a
	for range 48 {
		far = op(api.TNeg, far)
	}
	takes(t, nil, nil, inst(lits(neg(deep), pos(nested(150, less(far, a)))), far))
	far = op(api.TNeg, far)
	refuses(t, nil, nil, inst(lits(neg(deep), pos(nested(150, less(far, a)))), far))
}

// yes0 tells a formula that a pattern may have.
func yes0() api.Term { return app("p") }

// TestEuf: what euf tells valid, of ground atoms.
func TestEuf(t *testing.T) {
	a, b, c, o, u := app("a"), app("b"), app("c"), app("o"), app("u")
	forall := all("x", app("p"), app("f", variable("x", ints)))
	for _, line := range []api.Line{
		equality(pos(same(a, a))), equality(neg(same(a, b)), neg(same(b, c)), pos(same(a, c))), equality(neg(same(o, u)), pos(same(app("g", o), app("g", u)))), equality(neg(same(o, u)), neg(app("h", o)), pos(app("h", u))),
		equality(neg(same(numeral("1"), numeral("2")))), equality(pos(less(a, a)), neg(same(numeral("1"), a)), neg(same(a, numeral("2")))), equality(neg(app("p")), pos(app("p"))), equality(pos(yes())), equality(neg(no())),
	} {
		takes(t, nil, nil, line)
	}
	for _, line := range []api.Line{
		equality(), equality(neg(same(a, a))), equality(pos(same(a, b))), equality(pos(same(a, b)), neg(same(b, c)), pos(same(a, c))), equality(neg(same(app("g", o), app("g", u))), pos(same(o, u))), equality(pos(atMost(a, a))), equality(pos(same(op(api.TAdd, a, b), op(api.TAdd, b, a)))),
		equality(pos(same(a, a)), neg(forall)), equality(pos(forall), neg(forall)), equality(pos(same(a, a)), pos(op(api.TOr, app("p"), forall))),
	} {
		refuses(t, nil, nil, line)
	}
}

// TestLia: the rows of the clause are refuted.
func TestLia(t *testing.T) {
	a, b, p := app("a"), app("b"), app("p")
	odd := same(op(api.TMul, numeral("2"), a), numeral("1"))
	at := api.Lin{C: []api.Coef{{Name: "a", N: "1"}}, K: "0"}
	parts := api.Farkas{Split: true, Row: at, L: []api.Farkas{sum("0", "1", "2"), sum("1", "0", "2")}}
	forall := all("x", p, app("f", variable("x", ints)))
	for _, line := range []api.Line{
		arithmetic(sum("1"), neg(less(a, a))), arithmetic(sum("1"), pos(atMost(a, a))), arithmetic(sum("1", "1"), neg(less(a, b)), pos(less(a, b))), arithmetic(sum("3", "3"), neg(less(a, b)), pos(atMost(a, b))), arithmetic(sum("1", "1"), neg(atMost(a, b)), pos(p), pos(atMost(a, b))),
		arithmetic(parts, neg(odd)), arithmetic(sum("1"), neg(less(a, a)), neg(forall)), arithmetic(sum("1"), neg(less(numeral("1"), numeral("0")))), arithmetic(sum("1", "0", "1"), neg(less(a, b)), neg(same(a, b))), arithmetic(sum("1", "1", "0"), neg(less(b, a)), neg(same(a, b))),
	} {
		takes(t, nil, nil, line)
	}
	for _, line := range []api.Line{
		arithmetic(sum("1")), arithmetic(sum()), arithmetic(api.Farkas{}, neg(less(a, a))), arithmetic(sum("1"), pos(less(a, a))), arithmetic(sum("1"), neg(atMost(a, a))), arithmetic(sum("1", "1"), neg(atMost(a, b)), pos(less(a, b))), arithmetic(sum("-1"), neg(less(a, a))), arithmetic(sum("1", "1"), neg(less(a, a))), arithmetic(sum("1"), neg(p)),
		arithmetic(parts, pos(odd)), arithmetic(sum("1", "1"), pos(same(a, a))), arithmetic(sum("1"), neg(less(a, a)), pos(less(numeral(strings.Repeat("9", 401)), a))), arithmetic(sum("1"), neg(less(a, a)), pos(less(ite(forall, a, b), a))),
	} {
		refuses(t, nil, nil, line)
	}
}

// TestIte: of a choice, either of its sides.
func TestIte(t *testing.T) {
	a, b, o, u, p, q := app("a"), app("b"), app("o"), app("u"), app("p"), app("q")
	pick, object, truth := ite(p, a, b), ite(less(a, b), o, u), ite(p, q, app("r"))
	forall := all("x", p, app("f", variable("x", ints)))
	takes(t, nil, nil, choice(pick, neg(p), pos(same(pick, a))))
	takes(t, nil, nil, choice(pick, pos(p), pos(same(pick, b))))
	takes(t, nil, nil, choice(object, neg(less(a, b)), pos(same(object, o))))
	takes(t, nil, nil, choice(object, pos(less(a, b)), pos(same(object, u))))
	both := ite(p, a, a)
	takes(t, nil, nil, choice(both, neg(p), pos(same(both, a))))
	takes(t, nil, nil, choice(both, pos(p), pos(same(both, a))))
	open := ite(forall, a, b)
	for _, line := range []api.Line{
		choice(pick, pos(p), pos(same(pick, a))), choice(pick, neg(p), pos(same(pick, b))), choice(pick, neg(p), pos(same(a, pick))), choice(pick, neg(p), neg(same(pick, a))), choice(pick, pos(same(pick, a)), neg(p)), choice(pick, neg(q), pos(same(pick, a))), choice(pick, neg(p)), choice(pick), choice(pick, neg(p), pos(same(pick, a)), pos(q)),
		choice(truth, neg(p), pos(same(truth, q))), choice(truth, pos(p), pos(same(truth, app("r")))), choice(a, neg(p), pos(same(pick, a))), choice(object, neg(p), pos(same(pick, a))), choice(open, neg(forall), pos(same(open, a))), choice(ite(p, a, o), neg(p), pos(same(a, a))), choice(op(api.TIte), neg(p), pos(same(pick, a))), choice(op(api.TIte, p, a), neg(p), pos(same(pick, a))), choice(ite(p, a, variable("x", ints)), neg(p), pos(same(pick, a))), choice(pick, neg(p), pos(op(api.TIff, p, p))), choice(ite(no(), app("zz"), a), neg(no()), pos(same(a, a))),
	} {
		refuses(t, nil, nil, line)
	}
	line := choice(pick, neg(p), pos(same(pick, a)))
	for _, l := range [][]api.Term{nil, {pick, pick}, {pick, a}, {a, pick}} {
		line.Terms = l
		refuses(t, nil, nil, line)
	}
}

// TestTri: equal, less, more: in this order.
func TestTri(t *testing.T) {
	a, o, u, p := app("a"), app("o"), app("u"), app("p")
	b := op(api.TAdd, app("b"), numeral("1"))
	forall := all("x", p, app("f", variable("x", ints)))
	open := ite(forall, a, a)
	clause := func(a, b api.Term) []api.Lit { return lits(pos(same(a, b)), pos(less(a, b)), pos(less(b, a))) }
	takes(t, nil, nil, three(a, b, clause(a, b)...))
	takes(t, nil, nil, three(b, a, clause(b, a)...))
	takes(t, nil, nil, three(a, a, clause(a, a)...))
	c := clause(a, b)
	for _, line := range []api.Line{
		three(b, a, c...), three(a, a, c...), three(a, b, c[1], c[0], c[2]), three(a, b, c[0], c[2], c[1]), three(a, b, c[:2]...), three(a, b), three(a, b, append(c[:3:3], pos(p))...),
		three(a, b, neg(c[0].Atom), c[1], c[2]), three(a, b, c[0], neg(c[1].Atom), c[2]), three(a, b, c[0], c[1], neg(c[2].Atom)), three(a, b, pos(same(b, a)), c[1], c[2]), three(a, b, c[0], pos(atMost(a, b)), c[2]), three(a, b, c[0], c[1], pos(less(a, b))),
		three(o, u, pos(same(o, u)), c[1], c[2]), three(p, p, pos(same(p, p)), c[1], c[2]), three(open, a, clause(open, a)...), three(a, open, clause(a, open)...), three(a, o, c...), three(o, a, c...), three(variable("x", ints), a, c...), three(a, app("zz"), c...),
	} {
		refuses(t, nil, nil, line)
	}
	line := three(a, b, c...)
	for _, l := range [][]api.Term{nil, {a}, {a, b, a}} {
		line.Terms = l
		refuses(t, nil, nil, line)
	}
}

// TestRup: what follows by propagation from the clauses ahead.
func TestRup(t *testing.T) {
	p, q, r, a := app("p"), app("q"), app("r"), app("a")
	lt := less(a, numeral("5"))
	have := [][]api.Lit{{pos(p), pos(q)}, {neg(p), pos(q)}, {neg(q), pos(lt), pos(r)}, {neg(r), neg(q), pos(lt)}}
	for _, c := range [][]api.Lit{{pos(q)}, {pos(lt), neg(q)}, {pos(q), pos(r)}, {pos(r), neg(r)}, {neg(q), pos(lt)}, {pos(q), pos(q)}} {
		takes(t, nil, have, follows(c...))
	}
	for _, c := range [][]api.Lit{{}, {pos(p)}, {neg(p)}, {pos(r)}, {neg(q)}, {pos(lt)}, {neg(lt)}, {pos(not(p))}, {neg(not(q))}, {pos(less(numeral("5"), a))}} {
		refuses(t, nil, have, follows(c...))
	}
	takes(t, nil, [][]api.Lit{{}}, follows())
	takes(t, nil, [][]api.Lit{{}}, follows(pos(p)))
	refuses(t, nil, append(have, lits(neg(lt))), follows())
	takes(t, nil, append(have, lits(neg(lt)), lits(pos(q))), follows())
	takes(t, nil, append(have, lits(pos(q))), follows(pos(lt)))
	refuses(t, nil, nil, follows())
	// What holds by its connective alone doesn't follow.
	refuses(t, terms(p), nil, follows(pos(yes())))
	refuses(t, terms(p), nil, follows(pos(p)))
	// Four clauses of two: nothing propagates ahead of a unit.
	four := [][]api.Lit{{pos(p), pos(q)}, {pos(p), neg(q)}, {neg(p), pos(q)}, {neg(p), neg(q)}}
	refuses(t, nil, four, follows())
	takes(t, nil, four, follows(pos(p)))
	takes(t, nil, append(four, lits(pos(p))), follows())
}
