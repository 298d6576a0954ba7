package match_test

import (
	"math/rand"
	"slices"
	"testing"

	"avow/api"
	"avow/match"
)

// maker makes terms, equations and patterns.
type maker struct{ *rand.Rand }

func pick[T any](m maker, l ...T) T { return l[m.Intn(len(l))] }

// term tells a ground term, at most so deep.
func (m maker) term(deep int) api.Term {
	if deep == 0 || m.Intn(3) == 0 {
		return pick(m, app("a"), app("b"), app("bb"), app("a"), app("b"), app("bb"), app("c"), numeral("1"), numeral("2"), yes(), app("1"), pick(m, op(0), op(api.TAdd), op(api.TFalse)))
	}
	out := pick(m, app("f"), app("f"), app("f"), app("f"), app("g"), app("g"), op(api.TAdd), op(api.TNeg), pick(m, op(api.TNot), op(api.TEq), op(api.TIte), op(api.TMul, numeral("2"))))
	for range pick(m, 1, 1, 1, 1, 2, 2, 3) {
		out.L = append(out.L, m.term(deep-1))
	}
	return out
}

func (m maker) terms(most, deep int) []api.Term {
	var out []api.Term
	for range pick(m, m.Intn(most+1), most) {
		out = append(out, m.term(deep))
	}
	return out
}

// lit tells a literal, mostly an equation, mostly of terms that stand in ground or are made of such.
func (m maker) lit(ground []api.Term) api.Lit {
	known := append(subtermsOf(ground), app("a"), app("d"))
	side := func() api.Term {
		switch m.Intn(4) {
		case 0:
			return m.term(2)
		case 1:
			return app("f", pick(m, known...))
		}
		return pick(m, known...)
	}
	switch m.Intn(12) {
	case 0:
		return isnt(side(), side())
	case 1:
		return api.Lit{Atom: op(api.TIff, side(), side())}
	case 2:
		return is(app("f", variable("x")), side())
	}
	return is(side(), side())
}

func (m maker) lits(ground []api.Term, most int) []api.Lit {
	var out []api.Lit
	for range m.Intn(most + 1) {
		out = append(out, m.lit(ground))
	}
	return out
}

// opened tells a term with variables here and there, and in place of what may not stand in a pattern.
func (m maker) opened(t api.Term, vars []api.Bound) api.Term {
	may := t.Op == api.TApp || t.Op == api.TNum || t.Op >= api.TAdd && t.Op <= api.TMul
	if !may || m.Intn(3) == 0 {
		return variable(pick(m, vars...).Name)
	}
	out := t
	out.L = nil
	for _, x := range t.L {
		out.L = append(out.L, m.opened(x, vars))
	}
	return out
}

// pattern tells one that is made of a term that stands in ground, in an equation, or anywhere.
func (m maker) pattern(ground []api.Term, eq []api.Lit, vars []api.Bound) api.Term {
	known := subtermsOf(ground)
	for _, l := range eq {
		known = append(known, subtermsOf(l.Atom.L)...)
	}
	known = append(known, m.term(2), app("f", m.term(1)))
	if some := slices.DeleteFunc(slices.Clone(known), func(x api.Term) bool { return len(x.L) == 0 }); m.Intn(4) > 0 {
		known = some
	}
	p := pick(m, known...)
	if p.Op != api.TApp {
		p = app(pick(m, "f", "g"), p)
	}
	out := p
	out.L = nil
	for _, x := range p.L {
		out.L = append(out.L, m.opened(x, vars))
	}
	return out
}

// all tells a TAll whose patterns name all its variables.
func (m maker) all(ground []api.Term, eq []api.Lit) api.Term {
	for {
		sort := func() int { return pick(m, ints, ints, objs, bools) }
		vars := []api.Bound{bound("x", sort()), bound("y", sort()), bound("z", sort())}[:pick(m, 1, 1, 1, 2, 2, 3)]
		out := universal(vars, m.pattern(ground, eq, vars))
		if m.Intn(3) == 0 {
			out.Pat = append(out.Pat, m.pattern(ground, eq, vars))
		}
		if _, err := match.Find(out, nil, nil); err == api.OK {
			return out
		}
	}
}

// TestPlain: for many small terms and equations: what is found by trying all lists of subterms.
func TestPlain(t *testing.T) {
	found, byEquations, several := 0, 0, 0
	for i := range 4000 {
		m := maker{rand.New(rand.NewSource(int64(i)))}
		ground := m.terms(4, 3)
		for len(subtermsOf(ground)) > 14 {
			ground = m.terms(4, 3)
		}
		eq := m.lits(ground, 5)
		all := m.all(ground, eq)
		n := holdsPlain(t, all, ground, eq)
		if n > 0 {
			found++
		}
		if n > 1 {
			several++
		}
		if n != holdsPlain(t, all, ground, nil) {
			byEquations++
		}
	}
	if found < 1000 || several < 300 || byEquations < 200 {
		t.Errorf("too little was found to tell much: %d, %d, %d", found, several, byEquations)
	}
}

// TestMoreEquations: with one more equation nothing is lost, up to equality.
func TestMoreEquations(t *testing.T) {
	lost, more := 0, 0
	for i := range 2000 {
		m := maker{rand.New(rand.NewSource(int64(i)))}
		ground := m.terms(8, 4)
		eq := m.lits(ground, 6)
		all := m.all(ground, eq)
		before, err := match.Find(all, ground, eq)
		if err == api.ErrMatch {
			continue
		}
		one := m.lit(ground)
		if len(before) > 1 && m.Intn(2) == 0 {
			one = is(before[0][0], before[len(before)-1][0])
		}
		at := m.Intn(len(eq) + 1)
		eq = slices.Insert(slices.Clone(eq), at, one)
		after, _ := match.Find(all, ground, eq)
		e := equalsBy(eq)
		for _, l := range before {
			if !slices.ContainsFunc(after, func(x []api.Term) bool { return equalLists(e, x, l) }) {
				t.Fatalf("P11.2: %s: %s is lost, with %s", askedOf(all, ground, eq), words([][]api.Term{l}), litWords(lits(one)))
			}
		}
		if len(after) < len(before) {
			lost++
		}
		if len(after) > len(before) {
			more++
		}
	}
	if lost < 50 || more < 50 {
		t.Errorf("too little changed to tell much: %d, %d", lost, more)
	}
}

// TestGreater: more terms than can be tried in all lists: what is found is right, and what was put there is found.
func TestGreater(t *testing.T) {
	x, y, z := variable("x"), variable("y"), variable("z")
	c := constants(150)
	var ground []api.Term
	var eq []api.Lit
	for i := range 30 {
		ground = append(ground, c[i], c[i+30], c[i+60], c[i+90])
		eq = append(eq, is(app("h", app("f", c[i]), app("g", c[i+30], c[i+60])), app("k", c[i+90])), is(app("k", c[i+90]), c[i+90]))
	}
	got, err := match.Find(all(3, app("h", app("f", x), app("g", y, z))), ground, eq)
	if err != api.OK || len(got) != 30 {
		t.Fatalf("P11.1: %d, %v", len(got), err)
	}
	want := func(l []api.Term, i int) bool {
		return l[0].Name == c[i].Name && l[1].Name == c[i+30].Name && l[2].Name == c[i+60].Name
	}
	for i, l := range got {
		if !want(l, i) {
			t.Errorf("P11.1: %d: %s", i, words([][]api.Term{l}))
		}
	}
	p := x
	for range 190 {
		p = app("g", p, app("f", z))
	}
	eq = lits(is(app("g", c[0], app("f", c[1])), c[0]), is(app("g", c[0], app("f", c[2])), c[0]))
	finds(t, "no pattern is gone down in all ways", all(2+1, p, app("f", y)), terms(c[0], app("f", c[1]), app("f", c[2])), eq, "c0, c1, c1; c0, c1, c2; c0, c2, c1; c0, c2, c2")
	chainOf := lits()
	for i := range 4000 {
		chainOf = append(chainOf, is(app("n", numeral(string(rune('a'+i%26)))), app("m")), is(chain("s", i%40, app("m")), app("m")))
	}
	finds(t, "many equations", all(1, app("f", chain("s", 100, app("n", x)))), terms(app("f", app("m")), numeral("k"), numeral("zz"), numeral("b")), chainOf, "b; k")
}
