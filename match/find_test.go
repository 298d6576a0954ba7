package match_test

import (
	"strconv"
	"strings"
	"testing"

	"avow/api"
	"avow/match"
	"avow/term"
)

func TestExample(t *testing.T) {
	a, b := app("a"), app("b")
	for sort := ints; sort <= objs; sort++ {
		finds(t, "the chapter's example", ofSort(sort, app("f", app("g", variable("x")))), terms(app("f", a), app("g", b)), lits(is(a, app("g", b))), "b")
	}
	finds(t, "without the equation", all(1, app("f", app("g", variable("x")))), terms(app("f", a), app("g", b)), nil, "")
	finds(t, "without b", all(1, app("f", app("g", variable("x")))), terms(app("f", a)), lits(is(a, app("g", b))), "")
}

func TestNothing(t *testing.T) {
	x, a := variable("x"), app("a")
	for _, eq := range [][]api.Lit{nil, {}, {is(app("f", a), a)}, {is(a, a), is(a, app("b"))}} {
		for _, ground := range [][]api.Term{nil, {}} {
			finds(t, "no ground terms", all(1, app("f", x)), ground, eq, "")
			finds(t, "no ground terms, three variables", all(3, app("f", x, variable("y"), variable("z"))), ground, eq, "")
		}
	}
	for _, eq := range [][]api.Lit{nil, {}} {
		finds(t, "no equations", all(1, app("f", x)), terms(app("f", a), app("g", app("b"))), eq, "a")
	}
}

func TestSubterms(t *testing.T) {
	x, a, b, c := variable("x"), app("a"), app("b"), app("c")
	f := all(1, app("f", x))
	finds(t, "ground's own", f, terms(app("f", a)), nil, "a")
	finds(t, "each operand", f, terms(app("g", app("f", a), app("f", b), app("f", c))), nil, "a; b; c")
	finds(t, "within one another", f, terms(chain("f", 4, a)), nil, "a; (f a); (f (f a)); (f (f (f a)))")
	finds(t, "each once", f, terms(app("f", a), app("g", app("f", a), app("f", a)), app("f", a), a, a), nil, "a")
	within := func(t api.Term) []api.Term {
		var out []api.Term
		for o := api.TNum; o <= api.TApp; o++ {
			out = append(out, api.Term{Op: o, Name: "n", N: "1", L: terms(t)}, api.Term{Op: o, Name: "n", N: "1", L: terms(b, c, t)})
		}
		return append(out, op(0, t), op(99, b, t))
	}
	for _, g := range within(app("f", a)) {
		finds(t, "within "+term.Text(g), f, terms(g), nil, "a")
		for _, h := range within(g) {
			finds(t, "within "+term.Text(h), f, terms(h), nil, "a")
		}
	}
	finds(t, "what stands just in an equation is no subterm", f, terms(app("f", a)), lits(is(app("f", b), c)), "a")
	finds(t, "nor may a pattern be equal to it alone", f, terms(a), lits(is(app("f", a), b)), "")
	finds(t, "patterns and bodies of what is no TAll say nothing", f, terms(api.Term{Op: api.TApp, Name: "f", Vars: []api.Bound{bound("x", ints)}, Pat: terms(app("f", b), x), L: terms(a)}), nil, "a")
	for _, g := range []api.Term{all(1, app("f", x)), app("k", all(1, app("f", x))), {Op: api.TAll, L: terms(app("f", b))}} {
		refuses(t, "within a TAll", f, terms(app("f", a), g))
	}
}

// TestSame: terms are the same by term.Same alone, not by their Texts.
func TestSame(t *testing.T) {
	x := variable("x")
	unlike := terms(numeral("5"), app("5"), numeral("5", app("a")), numeral("5", app("b")))
	for i, u := range unlike {
		for k, v := range unlike {
			got, err := match.Find(all(1, app("f", x)), terms(app("f", u), app("f", v)), nil)
			want := 2
			if i == k {
				want = 1
			}
			if err != api.OK || len(got) != want || words(got) != strings.Join([]string{"5", "5"}[:want], "; ") || want == 2 && term.Same(got[0][0], got[1][0]) {
				t.Errorf("P11.1: of %d, %d: %d", i, k, len(got))
			}
		}
	}
	finds(t, "names are told apart", all(1, app("f", x)), terms(app("f", app("a,1")), app("f", app("a", numeral("1"))), app("f,1", app("b"))), nil, "a,1; (a 1)")
	finds(t, "numbers are told apart", all(1, app("f", x, numeral("1"))), terms(app("f", app("a"), numeral("01")), app("f", app("b"), numeral("1")), app("f", app("c"), numeral("2"))), nil, "b")
	finds(t, "how many operands there are", all(1, app("f", x)), terms(app("f", app("a"), app("a")), app("f"), app("f", app("b"))), nil, "b")
	finds(t, "operators", all(1, app("f", op(api.TAdd, x, x))), terms(app("f", op(api.TSub, app("a"), app("a"))), app("f", op(api.TAdd, app("b"), app("b"))), app("f", op(api.TMul, app("c"), app("c")))), nil, "b")
}

func TestSorts(t *testing.T) {
	a, one, o, p := app("a"), numeral("1"), app("o"), app("p", app("o"))
	any := []int{ints, bools, objs}
	for _, z := range []struct {
		t     api.Term
		sorts []int
	}{
		{one, any[:1]}, {numeral("-7"), any[:1]}, {op(api.TAdd), any[:1]}, {op(api.TAdd, a, o), any[:1]}, {op(api.TSub, a, a), any[:1]}, {op(api.TNeg, o), any[:1]}, {op(api.TMul, one, a), any[:1]}, {yes(), any[1:2]}, {op(api.TFalse), any[1:2]}, {op(api.TNot, p), any[1:2]}, {op(api.TAnd), any[1:2]}, {op(api.TOr, a), any[1:2]}, {op(api.TImp, p, p), any[1:2]}, {op(api.TIff, p, p), any[1:2]}, {op(api.TEq, a, one), any[1:2]}, {op(api.TLe, a, one), any[1:2]}, {op(api.TLt, a, one), any[1:2]},
		{a, any}, {p, any}, {app("true"), any}, {op(api.TIte, p, one, a), any}, {op(api.TIte, p, a, one), any[:1]}, {op(api.TIte, p, one, yes()), any[1:2]}, {op(api.TIte, a, p), any}, {op(api.TIte, yes()), any[1:2]}, {op(api.TIte), nil}, {op(api.TIte, a, a, op(api.TIte, p, a, op(api.TNeg, a))), any[:1]}, {op(api.TIte, one, one, op(api.TIte, one, one, o)), any}, {op(api.TIte, one, one, op(api.TIte)), nil}, {op(api.TIte, a, op(0)), nil}, {op(0), nil}, {op(-1), nil}, {op(99, a), nil},
	} {
		for sort := ints; sort <= objs; sort++ {
			want := ""
			for _, s := range z.sorts {
				if s == sort {
					want = term.Text(z.t)
				}
			}
			finds(t, "sort "+strconv.Itoa(sort), ofSort(sort, app("f", variable("x"))), terms(app("f", z.t)), nil, want)
			finds(t, "a variable's own sort says nothing", ofSort(sort, app("f", api.Term{Op: api.TVar, Name: "x", Sort: objs})), terms(app("f", z.t)), nil, want)
		}
	}
	vars := []api.Bound{bound("x", ints), bound("y", bools), bound("z", objs)}
	pat := app("f", variable("x"), variable("y"), variable("z"))
	finds(t, "each of its own", universal(vars, pat), terms(app("f", one, yes(), o), app("f", yes(), one, o), app("f", one, one, o), app("f", one, yes(), yes())), nil, "1, true, o")
}

// TestSortsOfEquals: where one that is equal is of the variable's sort, it is found.
func TestSortsOfEquals(t *testing.T) {
	f := func(sort int) api.Term { return ofSort(sort, app("f", variable("x"))) }
	a, one := app("a"), numeral("1")
	finds(t, "not the number", f(objs), terms(app("f", one), app("long")), lits(is(one, app("long"))), "long")
	finds(t, "the number", f(ints), terms(app("f", app("long")), one), lits(is(one, app("long"))), "1")
	finds(t, "there is none", f(objs), terms(app("f", one), numeral("2")), lits(is(one, numeral("2"))), "")
	finds(t, "a truth that is a number", f(bools), terms(app("f", one), yes()), lits(is(one, yes())), "true")
	finds(t, "a number that is a truth", f(ints), terms(app("f", yes()), one), lits(is(one, yes())), "1")
	finds(t, "neither", f(objs), terms(app("f", yes()), one), lits(is(one, yes())), "")
	finds(t, "it must be in ground", f(objs), terms(app("f", one)), lits(is(one, a)), "")
	both := universal([]api.Bound{bound("x", ints), bound("y", objs)}, app("g", variable("x"), variable("y")))
	finds(t, "each the first of its sort", both, terms(app("g", app("long"), app("longer")), one), lits(is(one, app("long")), is(app("long"), app("longer"))), "1, long")
}

func TestEquations(t *testing.T) {
	x, a, b, c, d := variable("x"), app("a"), app("b"), app("c"), app("d")
	f := all(1, app("f", x))
	finds(t, "by an equation", f, terms(a, b), lits(is(app("f", a), b)), "a")
	finds(t, "turned round", f, terms(a, b), lits(is(b, app("f", a))), "a")
	finds(t, "by several", f, terms(a, d), lits(is(app("f", a), b), is(c, b), is(c, d)), "a")
	finds(t, "through an operator", f, terms(a, d), lits(is(app("f", b), d), is(a, b)), "a")
	finds(t, "through several", all(1, app("f", app("g", op(api.TNeg, x), numeral("1")))), terms(a, d), lits(is(app("g", op(api.TNeg, b), numeral("1")), c), is(app("f", c), d), is(a, b)), "a")
	finds(t, "through all", all(1, app("f", op(api.TAdd, x, op(api.TSub, x, op(api.TMul, numeral("2"), x))))), terms(app("f", app("h")), a), lits(is(app("h"), op(api.TAdd, b, op(api.TSub, c, op(api.TMul, numeral("2"), d)))), is(a, b), is(b, c), is(c, d)), "a")
	finds(t, "round and round", all(1, chain("f", 100, x)), terms(a), lits(is(app("f", a), b), is(app("f", b), a)), "a")
	finds(t, "round and round, one more", all(1, chain("f", 101, x)), terms(a), lits(is(app("f", a), b), is(app("f", b), a)), "")
	finds(t, "both sides the same", f, terms(app("f", a)), lits(is(a, a), is(app("f", a), app("f", a))), "a")
	finds(t, "sides that say nothing of ground", f, terms(app("f", a)), lits(is(c, d), is(app("f", c), app("g", d))), "a")
	finds(t, "a number's text", all(1, app("f", x, numeral("1"))), terms(app("f", a, numeral("2"))), lits(is(numeral("1"), numeral("2"))), "a")
	finds(t, "that can't be", f, terms(app("f", a), app("f", b), c), lits(is(numeral("1"), numeral("2")), is(yes(), op(api.TFalse)), is(b, c)), "a; b")
	finds(t, "an equation as a term", all(1, app("f", x)), terms(app("f", op(api.TEq, a, b)), app("f", yes())), lits(is(a, b)), "")
	finds(t, "formulas as sides", ofSort(bools, app("f", x)), terms(app("f", op(api.TEq, a, b)), yes()), lits(is(op(api.TEq, a, b), yes())), "true")
	finds(t, "operators that are none", f, terms(app("f", a), app("g", op(99, a))), lits(is(op(99, b), app("f", c)), is(a, b), is(b, c)), "a")
	finds(t, "the example of chapter 8", all(1, app("k", app("f", x))), terms(app("k", a)), lits(is(chain("f", 3, a), a), is(chain("f", 5, a), a)), "a")
}

// TestLiteralsThatSayNothing: only positive TEqs that chapter 8 takes are equations.
func TestLiteralsThatSayNothing(t *testing.T) {
	x, a, b := variable("x"), app("a"), app("b")
	for what, l := range map[string]api.Lit{
		"negated": isnt(a, b), "TIff": {Atom: op(api.TIff, a, b)}, "TLe": {Atom: op(api.TLe, a, b)}, "TNot": {Atom: op(api.TNot, op(api.TNot, op(api.TEq, a, b)))}, "TAnd": {Atom: op(api.TAnd, op(api.TEq, a, b))}, "TApp": {Atom: app("=", a, b)}, "nothing": {}, "none": {Atom: op(99, a, b)}, "a TNot negated": {Neg: true, Atom: op(api.TNot, op(api.TEq, a, b))},
		"one side": {Atom: op(api.TEq, a)}, "no side": {Atom: op(api.TEq)}, "three sides": {Atom: op(api.TEq, a, b, b)}, "three sides, negated": {Neg: true, Atom: op(api.TEq, a, b, b)}, "a variable": is(a, x), "a variable within": is(app("f", a), app("f", app("g", x))), "all": is(a, all(1, app("f", x))), "endless": is(app("f", b), endless("f", 2)), "endless, the first": is(endless("f", 1), app("f", b)), "far too great": is(doubled("f", 70, a), a), "too deep": is(chain("f", 200000, a), a),
	} {
		finds(t, what, all(1, app("f", x)), terms(app("f", a), b), lits(l), "a")
		finds(t, what, all(1, app("f", x)), terms(app("f", a), b), lits(l, is(b, app("c")), l), "a")
		finds(t, what, all(1, app("f", b, x)), terms(app("f", a, a)), lits(l), "")
		finds(t, what, all(1, app("f", b, x)), terms(app("f", a, a)), lits(l, is(a, b), l), "a")
	}
	atoms := []api.Lit{{Atom: app("p", a)}, {Neg: true, Atom: app("q", a)}}
	finds(t, "atoms aren't true or false", ofSort(bools, app("f", x)), terms(app("f", app("p", a)), app("f", app("q", a)), yes(), op(api.TFalse)), atoms, "(p a); (q a)")
}

func TestGreatEquations(t *testing.T) {
	x, a, b := variable("x"), app("a"), app("b")
	sum := op(api.TAdd)
	for range api.MaxNodes - 4 {
		sum.L = append(sum.L, a)
	}
	greater := op(api.TAdd, append(sum.L, b)...)
	finds(t, "just so great", all(1, app("f", x)), terms(a, b), lits(is(app("f", b), sum), is(sum, a)), "b")
	finds(t, "one greater", all(1, app("f", x)), terms(a, b), lits(is(app("f", b), greater), is(greater, a)), "")
	deep := chain("f", 9000, a)
	finds(t, "deep", all(1, app("f", x)), terms(a, b), lits(is(deep, b), is(deep.L[0], a)), "a")
}

func TestJustOneOfEquals(t *testing.T) {
	x, y, a, b, c := variable("x"), variable("y"), app("a"), app("b"), app("c")
	f, g := all(1, app("f", x)), all(2, app("g", x, y))
	finds(t, "two", f, terms(app("f", b), app("f", a)), lits(is(a, b)), "a")
	finds(t, "the shorter one", f, terms(app("f", app("aa")), app("f", b)), lits(is(app("aa"), b)), "b")
	finds(t, "the shorter one, first", f, terms(app("f", b), app("f", app("aa"))), lits(is(app("aa"), b)), "b")
	finds(t, "it stands elsewhere", f, terms(app("f", app("aa")), app("g", c)), lits(is(app("aa"), c)), "c")
	finds(t, "it stands in an equation alone", f, terms(app("f", app("aa")), c), lits(is(app("aa"), b)), "aa")
	finds(t, "a part of the other", f, terms(chain("f", 9, b)), lits(is(app("f", b), b)), "b")
	finds(t, "through operators", f, terms(app("f", app("k", a)), app("f", app("k", b))), lits(is(a, b)), "(k a)")
	finds(t, "bytes, not letters", f, terms(app("f", app("é")), app("f", app("zz"))), lits(is(app("é"), app("zz"))), "zz")
	finds(t, "numbers ahead of names", f, terms(app("f", a), app("f", numeral("7"))), lits(is(a, numeral("7"))), "7")
	finds(t, "the length of a Text", f, terms(app("f", numeral("-7")), app("f", app("four"))), lits(is(numeral("-7"), app("four"))), "four")
	finds(t, "place by place", g, terms(app("g", a, b), app("g", b, a), app("g", b, b), app("g", c, b)), lits(is(a, b)), "a, a; c, a")
	finds(t, "not unless each place is equal", g, terms(app("g", a, b), app("g", b, c), app("g", c, a)), lits(is(a, c)), "a, a; a, b; b, a")
	finds(t, "each place by its own", g, terms(app("g", app("aa"), app("bb")), a, b), lits(is(app("aa"), a), is(app("bb"), b)), "a, b")
	var ground []api.Term
	var eq []api.Lit
	for i, x := range constants(200) {
		ground = append(ground, app("f", x))
		eq = append(eq, is(x, app("d"+strconv.Itoa(i%7))))
	}
	finds(t, "many", f, ground, eq, "c0; c1; c2; c3; c4; c5; c6")
	finds(t, "all of them", f, ground, append(eq, is(app("d0"), app("d1")), is(app("d2"), app("d3")), is(app("d6"), app("d4")), is(app("d4"), app("d5")), is(app("d1"), app("d2")), is(app("d3"), app("d6"))), "c0")
}

func TestOrder(t *testing.T) {
	x, y := variable("x"), variable("y")
	a, b, bb, c := app("a"), app("b"), app("bb"), app("c")
	finds(t, "by length, then bytes", all(1, app("f", x)), terms(app("f", app("k", a)), app("f", bb), app("f", app("aaa")), app("f", c), app("f", app("ab")), app("f", a), app("f", app("Z")), app("f", numeral("10")), app("f", app("é"))), nil, "Z; a; c; 10; ab; bb; é; aaa; (k a)")
	finds(t, "the first place first", all(2, app("g", x, y)), terms(app("g", b, a), app("g", a, bb), app("g", bb, a), app("g", a, c), app("g", b, app("ab")), app("g", a, b)), nil, "a, b; a, c; a, bb; b, a; b, ab; bb, a")
	finds(t, "Vars' order, not the pattern's", all(2, app("g", y, x)), terms(app("g", b, a), app("g", a, b), app("g", a, c)), nil, "a, b; b, a; c, a")
	finds(t, "three places", all(3, app("g", x, y, variable("z"))), terms(app("g", b, a, a), app("g", a, b, b), app("g", a, b, a), app("g", a, a, bb), app("g", a, a, c)), nil, "a, a, c; a, a, bb; a, b, a; a, b, b; b, a, a")
	// Terms of one Text leave the order to the places behind them.
	finds(t, "Texts that are the same", all(2, app("g", x, y)), terms(app("g", numeral("5"), b), app("g", app("5"), a), app("g", numeral("5"), bb), app("g", app("5"), c)), nil, "5, a; 5, b; 5, c; 5, bb")
	ground := terms(app("f", app("5")), app("f", numeral("5")))
	for range 20 {
		got, _ := match.Find(all(1, app("f", x)), ground, nil)
		if len(got) != 2 || got[0][0].Op != api.TApp || got[1][0].Op != api.TNum {
			t.Fatal("P11.1: of one Text: the first one counts")
		}
		got, _ = match.Find(all(1, app("f", x)), ground, lits(is(numeral("5"), app("5"))))
		if len(got) != 1 || got[0][0].Op != api.TApp {
			t.Fatal("P11.1: of one Text, and equal: the first one counts")
		}
	}
}

func TestTwoPatterns(t *testing.T) {
	x, y, z := variable("x"), variable("y"), variable("z")
	a, b, c := app("a"), app("b"), app("c")
	f, g := app("f", x), app("g", x)
	finds(t, "both", all(1, f, g), terms(app("f", a), app("f", b), app("g", b), app("g", c)), nil, "b")
	finds(t, "both, by an equation", all(1, f, g), terms(app("f", a), app("g", c)), lits(is(a, c)), "a")
	finds(t, "just the first", all(1, f, g), terms(app("f", a), a), nil, "")
	finds(t, "just the second", all(1, f, g), terms(app("g", a), a), nil, "")
	finds(t, "the same twice", all(1, f, f), terms(app("f", a), app("f", b)), nil, "a; b")
	finds(t, "the second is ground", all(1, f, app("k", c)), terms(app("f", a), app("k", c)), nil, "a")
	finds(t, "the second is ground, and isn't there", all(1, f, app("k", c)), terms(app("f", a), app("k", b), c), nil, "")
	finds(t, "one of the other", all(1, f, app("g", f)), terms(app("f", a), app("f", b), app("g", app("f", b))), nil, "b")
	finds(t, "all pairs", all(2, f, app("g", y)), terms(app("f", a), app("f", b), app("g", b), app("g", c)), nil, "a, b; a, c; b, b; b, c")
	finds(t, "one in common", all(3, app("h", x, y), app("h", y, z)), terms(app("h", a, b), app("h", b, c), app("h", b, a), app("h", c, c)), nil, "a, b, a; a, b, c; b, a, b; b, c, c; c, c, c")
}

func TestTwiceInAPattern(t *testing.T) {
	x, y, a, b, c := variable("x"), variable("y"), app("a"), app("b"), app("c")
	twice := all(1, app("g", x, x))
	finds(t, "the same", twice, terms(app("g", a, b), app("g", b, b), app("g", b, a)), nil, "b")
	finds(t, "equal", twice, terms(app("g", a, b)), lits(is(a, c), is(c, b)), "a")
	finds(t, "not equal", twice, terms(app("g", a, b)), lits(isnt(a, b)), "")
	finds(t, "unlike depths", all(1, app("g", x, app("f", x))), terms(app("g", a, app("f", b)), app("g", b, app("f", b)), app("g", c, c)), lits(is(app("f", c), c)), "b; c")
	finds(t, "deeper, by an equation", all(1, app("g", x, app("f", x))), terms(app("g", a, b)), lits(is(app("f", c), b), is(a, c)), "a")
	finds(t, "each of the two, but not both", all(1, app("g", x, app("f", x))), terms(app("g", a, app("f", b)), app("g", b, app("f", a))), lits(is(app("g", a, app("f", a)), app("n"))), "")
	finds(t, "each of the two, and both", all(1, app("g", x, app("f", x))), terms(app("g", a, app("f", b)), app("g", b, app("f", a))), lits(is(app("g", a, app("f", a)), b)), "a")
	finds(t, "crosswise", all(2, app("k", app("g", x, y), app("g", y, x))), terms(app("k", app("g", a, b), app("g", b, a)), app("k", app("g", a, b), app("g", a, b)), app("k", app("g", c, c), app("g", c, c))), nil, "a, b; c, c")
	finds(t, "in sums", all(1, app("f", op(api.TAdd, x, x))), terms(app("f", op(api.TAdd, a, b)), app("f", op(api.TAdd, b, b)), app("f", op(api.TAdd, b, b, b))), nil, "b")
	finds(t, "sums are functions, no more", all(1, app("f", op(api.TAdd, x, numeral("1")))), terms(app("f", op(api.TAdd, numeral("1"), a)), app("f", numeral("3")), app("f", op(api.TAdd, b, numeral("1")))), nil, "b")
}
