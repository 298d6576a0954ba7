package smt

import (
	"slices"
	"strconv"
	"testing"

	"avow/api"
	"avow/term"
)

// once: one round.
var once = api.Budget{Steps: 1000000, Rounds: 1}

// function: one of objects, or of others, for patterns.
type function struct {
	name string
	args []int
}

// functions: those of which patterns are made.
func functions() []function {
	return []function{{"g", []int{objs}}, {"m", []int{objs, objs}}, {"four", []int{objs, objs, objs, objs}}, {"gb", []int{bools}}, {"gi", []int{ints}}, {"mixed", []int{ints, bools, objs}}}
}

// universalOf tells a formula for all with the pattern of a function of its variables alone, which is of equations of objects.
func (m maker) universalOf(f function) api.Term {
	var vars []api.Bound
	var args, objects []api.Term
	for i, sort := range f.args {
		v := api.Bound{Name: "x" + strconv.Itoa(i), Sort: sort}
		vars = append(vars, v)
		args = append(args, variable(v.Name, sort))
		if sort == objs {
			objects = append(objects, args[i])
		}
	}
	m.Shuffle(len(vars), func(i, j int) { vars[i], vars[j] = vars[j], vars[i] })
	pattern := app(f.name, args...)
	objects = append(objects, pattern, app("o"), app("u"))
	body := same(pattern, m.of(objects...))
	switch m.Intn(4) {
	case 0:
		body = op(api.TOr, body, same(m.of(objects...), m.of(objects...)))
	case 1:
		body = not(same(m.of(objects...), m.of(objects...)))
	case 2:
		body = op(api.TImp, same(m.of(objects...), app("w")), body)
	}
	return all(vars, body, pattern)
}

// TestInstances: P13.4: of one formula for all each of Apps is tried in one round.
func TestInstances(t *testing.T) {
	m := newMaker(41)
	counts := map[string]int{}
	for range 2500 {
		f := functions()[m.Intn(6)]
		forall := m.universalOf(f)
		var ground []api.Term
		for range 1 + m.Intn(3) {
			x := m.made(objs, 1+m.Intn(2))
			if m.Intn(3) > 0 {
				x = app(f.name)
				for _, sort := range f.args {
					x.L = append(x.L, m.made(sort, 1))
				}
			}
			a := same(x, m.made(objs, 1+m.Intn(2)))
			ground = append(ground, m.of(a, not(a)))
		}
		if m.Intn(4) == 0 {
			ground = append(ground, m.connected(ground, 2))
		}
		with := slices.Clone(ground)
		for _, x := range term.Apps(op(api.TAnd, ground...)) {
			if x.Name != f.name {
				continue
			}
			by := make([]api.Term, len(x.L))
			for i, v := range forall.Vars {
				at, _ := strconv.Atoi(v.Name[1:])
				by[i] = x.L[at]
			}
			made, e := term.Inst(forall, by)
			if e != api.OK {
				t.Fatal(e)
			}
			with = append(with, made)
		}
		want := ask(t, with, once)
		l := slices.Insert(slices.Clone(ground), m.Intn(len(ground)+1), forall)
		if m.Intn(5) == 0 {
			l = terms(op(api.TAnd, l...))
		}
		got := ask(t, l, once)
		if want == api.Unknown || want == api.Unsat && got != api.Unsat || got == api.Sat {
			t.Fatalf("P13.4: %d, and with the instances %d\n%s", got, want, texts(l))
		}
		counts[f.name+strconv.Itoa(got)]++
	}
	for _, f := range functions() {
		if counts[f.name+"2"] < 30 || counts[f.name+"0"] < 30 {
			t.Errorf("P13.4: so many of each verdict: %v", counts)
		}
	}
}

// TestRounds: P13.4: as many rounds as there may be, and no more.
func TestRounds(t *testing.T) {
	x := variable("x", ints)
	f := func(t api.Term) api.Term { return app("f", t) }
	back := all(bounds(ints, "x"), op(api.TImp, less(count(0), x), same(f(x), f(op(api.TSub, x, count(1))))), f(x))
	for n := range 6 {
		l := terms(back, not(same(f(count(n)), f(count(0)))))
		for rounds := range 8 {
			want := api.Unknown
			if rounds >= n {
				want = api.Unsat
			}
			if got := ask(t, l, api.Budget{Steps: 1000000, Rounds: rounds}); got != want {
				t.Errorf("P13.4: from %d in %d rounds: %d", n, rounds, got)
			}
		}
	}
}

// TestAll: P13.4: formulas for all wherever formulas stand; patterns of several terms, and by equations; what there is none of.
func TestAll(t *testing.T) {
	x, y, z, v := variable("x", ints), variable("y", ints), variable("z", ints), variable("v", objs)
	a, b, p, o, u := app("a"), app("b"), app("p"), app("o"), app("u")
	f := func(t api.Term) api.Term { return app("f", t) }
	d := func(a, b api.Term) api.Term { return app("d", a, b) }
	one := bounds(ints, "x")
	small := func(n int) api.Term { return all(one, less(f(x), count(n)), f(x)) }
	grows := all(bounds(ints, "x", "y"), op(api.TImp, less(x, y), less(f(x), f(y))), f(x), f(y))
	inner := all(one, op(api.TImp, less(count(0), x), all(bounds(ints, "y"), less(d(x, y), x), d(x, y))), f(x))
	nested := all(bounds(ints, "x"), same(f(app("k", app("gb", p))), x), f(x))
	asksAll(t, "P13.4", []verdictOf{
		{terms(small(1), less(count(0), f(count(3)))), api.Unsat}, {terms(small(1)), api.Unknown}, {terms(small(1), atMost(count(0), f(count(3)))), api.Unknown}, {terms(not(small(1))), api.Unknown}, {terms(small(1), not(small(1))), api.Unsat},
		{terms(op(api.TOr, small(1), small(2)), less(count(5), f(a))), api.Unsat}, {terms(op(api.TOr, small(1), p), less(count(5), f(a))), api.Unknown}, {terms(op(api.TOr, small(1), p), less(count(5), f(a)), not(p)), api.Unsat}, {terms(op(api.TIff, small(1), p), less(count(5), f(a)), p), api.Unsat}, {terms(op(api.TIte, p, small(1), small(2)), less(count(5), f(a))), api.Unsat}, {terms(same(small(1), small(2)), less(f(a), count(1)), less(count(5), f(b)), small(1)), api.Unsat},
		{terms(grows, less(a, b), atMost(f(b), f(a))), api.Unsat}, {terms(grows, less(a, b), less(f(b), f(count(7))), atMost(count(7), a)), api.Unsat}, {terms(grows, less(a, b), atMost(f(a), f(b))), api.Unknown},
		{terms(inner, same(f(count(2)), a), atMost(count(2), d(count(2), b))), api.Unsat}, {terms(inner, same(f(count(0)), a), atMost(count(2), d(count(0), b))), api.Unknown},
		{terms(nested, same(f(a), b), less(a, b), less(b, a)), api.Unsat}, {terms(nested, less(f(a), f(b)), less(f(b), f(a))), api.Unsat}, {terms(nested, less(a, b), same(f(a), f(b))), api.Unsat},
		// By equations.
		{terms(all(bounds(objs, "v"), not(app("h", v)), app("g", app("g", v))), same(app("g", o), u), app("h", o), same(app("g", u), o)), api.Unsat}, {terms(all(one, less(d(x, x), count(0)), d(x, x)), same(a, b), less(count(0), d(a, b))), api.Unsat}, {terms(all(one, less(d(x, x), count(0)), d(x, x)), less(count(0), d(a, b))), api.Unknown},
		{terms(all(one, less(f(x), count(0)), f(op(api.TAdd, x, count(1)))), same(f(op(api.TAdd, a, count(1))), b), less(count(0), f(a))), api.Unsat},
		// A formula for all is an operand like others, of which nothing is known.
		{terms(app("hb", small(1)), not(app("hb", small(1)))), api.Unsat}, {terms(app("hb", small(1)), not(app("hb", small(2)))), api.Unknown}, {terms(app("hb", small(1)), less(f(a), f(a))), api.Unsat}, {terms(app("hi", f(count(3)), small(9)), small(1), less(count(0), f(op(api.TSub, count(4), count(1))))), api.Unsat},
		// Those of one variable that stands in several patterns, and of several that stand in one.
		{terms(all(bounds(ints, "x", "y", "z"), less(d(d(x, y), z), count(0)), d(d(x, y), z)), less(count(0), d(d(a, count(1)), b))), api.Unsat}, {terms(all(bounds(ints, "x", "y", "z"), less(f(x), f(z)), d(x, y), d(y, z)), same(d(a, b), count(0)), same(d(b, a), count(1)), less(a, b)), api.Unsat},
		// The instance of a formula for all may be one that isn't right, by its patterns: then it isn't made.
		{terms(all(bounds(bools, "r"), all(bounds(objs, "v"), app("h", v), app("mixed", app("t", variable("r", bools)), variable("r", bools), v)), app("hb", variable("r", bools))), app("hb", op(api.TAnd, p)), not(app("h", o)), same(app("mixed", app("t", op(api.TAnd, p)), op(api.TAnd, p), o), o)), api.Unknown},
		{terms(all(bounds(bools, "r"), all(bounds(objs, "v"), app("h", v), app("mixed", app("t", variable("r", bools)), variable("r", bools), v)), app("hb", variable("r", bools))), app("hb", p), not(app("h", o)), same(app("mixed", app("t", p), p, o), o)), api.Unsat},
	})
}

// TestManyTerms: P13.4: of more terms than package match takes each is tried; and of more variables.
func TestManyTerms(t *testing.T) {
	x := variable("x", ints)
	forall := all(bounds(ints, "x"), less(app("f", x), count(1)), app("f", x))
	var sums []api.Term
	for i := range 400 {
		sums = append(sums, app("f", count(i)))
	}
	if got := ask(t, terms(forall, less(op(api.TAdd, sums...), count(0))), once); got != api.Unknown {
		t.Errorf("P13.4: %d", got)
	}
	if got := ask(t, terms(forall, less(count(0), op(api.TAdd, sums...))), once); got != api.Unsat {
		t.Errorf("P13.4: %d", got)
	}
	sig := append(sigOf(), api.Fun{Name: "eight", Args: slices.Repeat([]int{ints}, 8), Out: ints})
	var names []string
	var vars, of []api.Term
	for i := range 8 {
		names = append(names, "y"+strconv.Itoa(i))
		vars = append(vars, variable(names[i], ints))
		of = append(of, count(i))
	}
	sum := all(bounds(ints, names...), same(app("eight", vars...), op(api.TAdd, vars...)), app("eight", vars...))
	if got := askWith(t, sig, terms(sum, not(same(app("eight", of...), count(28)))), once); got != api.Unsat {
		t.Errorf("P13.4: of eight variables: %d", got)
	}
}
