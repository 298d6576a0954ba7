package match_test

import (
	"strconv"
	"strings"
	"testing"

	"avow/api"
	"avow/match"
	"avow/term"
)

const (
	ints  = api.SortInt
	bools = api.SortBool
	objs  = api.SortObj
)

func numeral(n string, l ...api.Term) api.Term { return api.Term{Op: api.TNum, N: n, L: l} }

func op(o int, l ...api.Term) api.Term { return api.Term{Op: o, L: l} }

func app(name string, l ...api.Term) api.Term { return api.Term{Op: api.TApp, Name: name, L: l} }

func variable(name string) api.Term { return api.Term{Op: api.TVar, Name: name, Sort: ints} }

func yes() api.Term { return op(api.TTrue) }

func is(a, b api.Term) api.Lit { return api.Lit{Atom: op(api.TEq, a, b)} }

func isnt(a, b api.Term) api.Lit { return api.Lit{Neg: true, Atom: op(api.TEq, a, b)} }

func terms(l ...api.Term) []api.Term { return l }

func lits(l ...api.Lit) []api.Lit { return l }

func bound(name string, sort int) api.Bound { return api.Bound{Name: name, Sort: sort} }

func universal(vars []api.Bound, pats ...api.Term) api.Term {
	return api.Term{Op: api.TAll, Vars: vars, Pat: pats, L: []api.Term{yes()}}
}

// all tells a TAll with x, y, z, so many of them.
func all(so int, pats ...api.Term) api.Term {
	return universal([]api.Bound{bound("x", ints), bound("y", ints), bound("z", ints)}[:so], pats...)
}

// ofSort tells a TAll with just x, of this sort.
func ofSort(sort int, pats ...api.Term) api.Term {
	return universal([]api.Bound{bound("x", sort)}, pats...)
}

// chain tells a term with a name so many times around another one.
func chain(name string, so int, t api.Term) api.Term {
	for range so {
		t = app(name, t)
	}
	return t
}

// doubled tells a term that is twice the same one, so many times; their lists are shared.
func doubled(name string, so int, t api.Term) api.Term {
	for range so {
		t = app(name, t, t)
	}
	return t
}

// endless tells a term that contains itself.
func endless(name string, so int) api.Term {
	l := make([]api.Term, so)
	for i := range l {
		l[i] = api.Term{Op: api.TApp, Name: name, L: l}
	}
	return l[0]
}

// constants tells so many constants.
func constants(so int) []api.Term {
	var out []api.Term
	for i := range so {
		out = append(out, app("c"+strconv.Itoa(i)))
	}
	return out
}

// words tells lists as a text.
func words(l [][]api.Term) string {
	var out []string
	for _, m := range l {
		var texts []string
		for _, t := range m {
			texts = append(texts, term.Text(t))
		}
		out = append(out, strings.Join(texts, ", "))
	}
	return strings.Join(out, "; ")
}

// finds holds Find to find just these.
func finds(t *testing.T, what string, all api.Term, ground []api.Term, eq []api.Lit, want string) {
	t.Helper()
	got, err := match.Find(all, ground, eq)
	if err != api.OK || words(got) != want {
		t.Errorf("P11.1: %s: %s, %v; wanted %s", what, words(got), err, want)
	}
}

// refuses holds Find to tell ErrMatch, and nothing beside it.
func refuses(t *testing.T, what string, all api.Term, ground []api.Term) {
	t.Helper()
	for _, eq := range [][]api.Lit{nil, {is(app("a"), app("b"))}} {
		if got, err := match.Find(all, ground, eq); err != api.ErrMatch || len(got) != 0 {
			t.Errorf("P11.1: %s: %s, %v", what, words(got), err)
		}
	}
}

func TestNoTAll(t *testing.T) {
	x, y := variable("x"), variable("y")
	vars, pat := []api.Bound{bound("x", ints)}, terms(app("f", x))
	ground := terms(app("f", app("a")))
	for o := -1; o <= api.TAll+1; o++ {
		whole := api.Term{Op: o, Name: "f", N: "1", Sort: ints, Vars: vars, Pat: pat, L: terms(yes())}
		if o == api.TAll {
			finds(t, "a TAll", whole, ground, nil, "a")
			continue
		}
		refuses(t, "operator "+strconv.Itoa(o), whole, ground)
		refuses(t, "operator "+strconv.Itoa(o), whole, nil)
	}
	refuses(t, "nothing", api.Term{}, ground)
	refuses(t, "no operand", api.Term{Op: api.TAll, Vars: vars, Pat: pat}, ground)
	refuses(t, "two operands", api.Term{Op: api.TAll, Vars: vars, Pat: pat, L: terms(yes(), yes())}, ground)
	finds(t, "three variables, two patterns", all(3, app("f", x), app("g", y, variable("z"))), terms(app("f", app("a")), app("g", app("b"), app("c"))), nil, "a, b, c")
}

func TestVars(t *testing.T) {
	ground := terms(app("f", app("a")))
	for what, vars := range map[string][]api.Bound{
		"none": nil, "an empty list": {}, "a name twice": {bound("x", ints), bound("x", ints)}, "a name twice, of two sorts": {bound("x", ints), bound("y", ints), bound("x", objs)},
		"sort 0": {bound("x", 0)}, "sort -1": {bound("x", -1)}, "sort 4": {bound("x", 4)}, "the second one's sort": {bound("x", ints), bound("y", 0)},
	} {
		p := app("f")
		for _, v := range vars {
			p.L = append(p.L, api.Term{Op: api.TVar, Name: v.Name, Sort: v.Sort})
		}
		refuses(t, what, universal(vars, p), ground)
		refuses(t, what, universal(vars, p), nil)
	}
	for _, name := range []string{"", "1", "1x", "x y", "x-", "é", "x\x00", "not", "and", "or", "iff", "ite", "neg", "forall", "pattern", "true", "false", "int", "bool", "obj", strings.Repeat("x", api.MaxName+1)} {
		refuses(t, name, universal([]api.Bound{bound(name, ints)}, app("f", variable(name))), ground)
		refuses(t, name, universal([]api.Bound{bound("x", ints), bound(name, ints)}, app("f", variable(name), variable("x"))), ground)
	}
	for _, name := range []string{"x", "_", "X1", "f", "a", "Not", strings.Repeat("x", api.MaxName)} {
		for sort := ints; sort <= objs; sort++ {
			finds(t, name, universal([]api.Bound{bound(name, sort)}, app("f", variable(name))), ground, nil, "a")
		}
	}
	vars := []api.Bound{bound("x", ints), bound("y", bools), bound("z", objs), bound("w", ints)}
	p := app("f", variable("x"), variable("y"), variable("z"), variable("w"))
	refuses(t, "four variables", universal(vars, p), terms(app("f", constants(4)...)))
	p.L = p.L[:3]
	finds(t, "three variables", universal(vars[:3], p), terms(app("f", constants(3)...)), nil, "c0, c1, c2")
}

func TestPatterns(t *testing.T) {
	x, a := variable("x"), app("a")
	ground := terms(app("f", a))
	refuses(t, "no pattern", all(1), ground)
	refuses(t, "three patterns", all(1, app("f", x), app("f", x), app("f", x)), ground)
	finds(t, "two patterns", all(1, app("f", x), app("f", x)), ground, nil, "a")
	for what, p := range map[string]api.Term{
		"nothing": {}, "a variable": x, "a number": numeral("1"), "a sum": op(api.TAdd, x, numeral("1")), "a difference": op(api.TSub, x, x), "neg": op(api.TNeg, x), "a product": op(api.TMul, numeral("2"), x), "an equation": op(api.TEq, x, x), "all": all(1, app("f", x)),
	} {
		refuses(t, what, all(1, p), ground)
		refuses(t, what, all(1, app("f", x), p), ground)
		refuses(t, what, all(1, p, app("f", x)), ground)
	}
	for o := -1; o <= api.TAll+1; o++ {
		may := o == api.TApp || o == api.TVar || o == api.TNum || o >= api.TAdd && o <= api.TMul
		for _, within := range []api.Term{{Op: o, Name: "k", N: "1"}, {Op: o, Name: "k", N: "1", L: terms(a)}, {Op: o, Name: "k", N: "1", Vars: []api.Bound{bound("y", ints)}, Pat: terms(app("f", variable("y"))), L: terms(a, x)}} {
			for _, p := range []api.Term{app("f", x, within), app("f", x, app("g", op(api.TAdd, numeral("1"), within))), app("f", api.Term{Op: api.TVar, Name: "x", Sort: ints, L: terms(within)})} {
				if _, err := match.Find(all(1, p), ground, nil); may != (err == api.OK) || !may && err != api.ErrMatch {
					t.Errorf("P11.1: operator %d in %s: %v", o, term.Text(p), err)
				}
			}
		}
	}
	refuses(t, "x isn't named", all(1, app("f", a)), ground)
	refuses(t, "x is the function", all(1, app("x", a)), ground)
	refuses(t, "y isn't named", all(2, app("f", x), app("g", x)), ground)
	refuses(t, "another one is named", all(1, app("f", variable("y"))), ground)
	finds(t, "each is named by one pattern", all(2, app("g", variable("y")), app("f", x)), terms(app("f", a), app("g", app("b"))), nil, "a, b")
}

func TestPatternsTooDeepOrTooGreat(t *testing.T) {
	x, a := variable("x"), app("a")
	wide := func(size int) api.Term {
		out := app("f", x)
		for range size - 2 {
			out.L = append(out.L, a)
		}
		return out
	}
	eq := lits(is(app("f", a), a))
	finds(t, "just so deep", all(1, chain("f", api.MaxDepth-1, x)), terms(a), eq, "a")
	refuses(t, "one deeper", all(1, chain("f", api.MaxDepth, x)), terms(a))
	refuses(t, "one deeper, the second one", all(1, app("f", x), chain("f", api.MaxDepth, x)), terms(a))
	finds(t, "just so great", all(1, wide(api.MaxNodes)), terms(a), nil, "")
	refuses(t, "one greater", all(1, wide(api.MaxNodes+1)), terms(a))
	refuses(t, "one greater, the second one", all(1, app("f", x), wide(api.MaxNodes+1)), terms(a))
	finds(t, "both just so great", all(1, wide(api.MaxNodes), wide(api.MaxNodes)), terms(a), nil, "")
	finds(t, "great, and there by an equation", all(1, wide(api.MaxNodes-3)), terms(a), lits(is(replaced(wide(api.MaxNodes-3), []api.Bound{bound("x", ints)}, terms(app("b"))), a), is(a, app("b"))), "a")
	refuses(t, "doubled", all(1, doubled("f", 70, x)), terms(a))
	for _, so := range []int{1, 2, 5} {
		refuses(t, "endless", all(1, app("f", x, endless("f", so))), terms(a))
	}
	// A pattern's own limits are asked of it as it stands: made ground it may be any.
	deep := chain("h", 400, a)
	finds(t, "made ground it is deeper", all(1, chain("f", 150, x)), terms(deep), lits(is(app("f", deep), deep)), term.Text(deep))
	great := app("k", constants(400)...)
	p := app("f")
	for range 1000 {
		p.L = append(p.L, x)
	}
	finds(t, "made ground it is greater", all(1, p), terms(great, app("e")), lits(is(replaced(p, []api.Bound{bound("x", ints)}, terms(app("b"))), app("e")), is(great, app("b"))), term.Text(great))
}

// TestWrongAsTerms: what is wrong in the TAll, and in its patterns, as terms is no matter.
func TestWrongAsTerms(t *testing.T) {
	a := app("a")
	x := variable("x")
	for _, z := range []struct {
		p    api.Term
		want string
	}{
		{app("", x), ""}, {app("no word", x), ""}, {app("true", x), ""}, {app("f", x, app("", a)), ""}, {app("f", x, numeral("01")), "b"}, {app("f", x, numeral("")), ""}, {app("f", x, numeral("1", a)), "c"}, {app("f", x, op(api.TSub)), "d"}, {app("f", x, op(api.TNeg, a, a)), ""}, {app("f", x, op(api.TMul, a, a)), "e"}, {app("f", x, op(api.TMul)), ""},
		{app("f", api.Term{Op: api.TVar, Name: "x", Sort: objs}), "a"}, {app("f", api.Term{Op: api.TVar, Name: "x"}), "a"}, {app("f", api.Term{Op: api.TVar, Name: "x", Sort: ints, L: terms(numeral("8"))}), "a"}, {app("f", x, variable("loose")), ""}, {app("f", app("f", x)), ""}, {app("f", x, x, x), ""}, {app("g", x, app("g")), "a"},
	} {
		ground := terms(app("f", a), app("f", app("b"), numeral("01")), app("f", app("c"), numeral("1", a)), app("f", app("d"), op(api.TSub)), app("f", app("e"), op(api.TMul, a, a)), app("g", a, app("g")), app("f", app("h"), numeral("1")))
		for _, body := range []api.Term{yes(), {}, app("f"), numeral("x"), variable("y"), op(api.TNot), chain("f", 300, a), endless("f", 2), op(api.TAll, yes())} {
			all := all(1, z.p)
			all.L[0] = body
			finds(t, term.Text(z.p), all, ground, nil, z.want)
		}
	}
	// A variable that is named where it is replaced with what it stands in may be any.
	p := app("f", api.Term{Op: api.TVar, Name: "x", Sort: ints, L: terms(variable("y"))})
	finds(t, "named within another", all(2, p), terms(app("f", a), numeral("1"), yes()), nil, "a, 1; a, a; a, (f a)")
	finds(t, "unbound in the second", all(2, app("f", x), app("f", variable("y"), variable("loose"))), terms(app("f", a), app("f", a, a)), nil, "")
	finds(t, "loose alone in the second", all(1, app("f", x), app("f", variable("loose"))), terms(app("f", a)), nil, "")
}

func TestGroundTerms(t *testing.T) {
	x, a := variable("x"), app("a")
	f := all(1, app("f", x))
	for what, g := range map[string]api.Term{"a variable": x, "within": app("f", x), "deep within": app("f", op(api.TAdd, a, app("g", a, x))), "all": f, "all, closed": all(1, app("f", x)), "all within": op(api.TNot, f), "an endless one": endless("f", 2), "a doubled one": doubled("f", 70, a)} {
		refuses(t, what, f, terms(g))
		refuses(t, what, f, terms(app("f", a), g))
		refuses(t, what, f, terms(g, app("f", a)))
	}
	for _, g := range []api.Term{{}, op(-1), op(99, op(api.TAll+1)), numeral(""), numeral("01"), app(""), app("true"), op(api.TNot), op(api.TEq, a), op(api.TIte), op(api.TMul, a), op(api.TTrue, a)} {
		if _, err := match.Find(f, terms(app("f", g), g), nil); err != api.OK {
			t.Errorf("P11.1: of %s: %v", term.Text(g), err)
		}
	}
}

func TestGroundTermsTooGreat(t *testing.T) {
	x, a := variable("x"), app("a")
	f := all(1, app("f", x))
	pairs := func(so int) []api.Term {
		var out []api.Term
		for range so {
			out = append(out, app("f", a))
		}
		return out
	}
	finds(t, "one", f, terms(app("f", constants(499)...)), nil, "")
	refuses(t, "one, greater", f, terms(app("f", constants(500)...)))
	finds(t, "deep", f, terms(chain("g", 498, app("f", a))), nil, "a")
	refuses(t, "deeper", f, terms(chain("g", 499, app("f", a))))
	finds(t, "many", f, append(constants(498), app("f", a)), nil, "a")
	refuses(t, "one more", f, append(constants(499), app("f", a)))
	finds(t, "the same", f, pairs(250), nil, "a")
	refuses(t, "the same, once more", f, append(pairs(250), a))
	refuses(t, "the first one alone", f, terms(app("f", constants(500)...), a))
	refuses(t, "far greater", f, terms(a, doubled("f", 62, a), doubled("f", 62, a), doubled("f", 62, a)))
	refuses(t, "many variables", f, terms(append(constants(500), x)...))
}
