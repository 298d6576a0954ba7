package euf

import (
	"slices"
	"strconv"
	"strings"
	"testing"

	"avow/api"
	"avow/term"
)

const (
	ints  = api.SortInt
	bools = api.SortBool
	objs  = api.SortObj
)

func numeral(n string, l ...api.Term) api.Term { return api.Term{Op: api.TNum, N: n, L: l} }

func op(o int, l ...api.Term) api.Term { return api.Term{Op: o, L: l} }

func app(name string, l ...api.Term) api.Term { return api.Term{Op: api.TApp, Name: name, L: l} }

func same(a, b api.Term) api.Term { return op(api.TEq, a, b) }

func yes() api.Term { return op(api.TTrue) }

func no() api.Term { return op(api.TFalse) }

func variable(name string) api.Term { return api.Term{Op: api.TVar, Name: name, Sort: ints} }

func all(body api.Term) api.Term {
	return api.Term{Op: api.TAll, Vars: []api.Bound{{Name: "x", Sort: ints}}, Pat: []api.Term{app("f", variable("x"))}, L: []api.Term{body}}
}

func is(atom api.Term) api.Lit { return api.Lit{Atom: atom} }

func isnt(atom api.Term) api.Lit { return api.Lit{Neg: true, Atom: atom} }

// chain tells a term with a name so many times around another one.
func chain(name string, so int, t api.Term) api.Term {
	for range so {
		t = app(name, t)
	}
	return t
}

// doubled tells a term that is twice the same one, so many times; their lists are shared.
func doubled(name string, so int, t api.Term) api.Term {
	for range so {
		t = app(name, t, t)
	}
	return t
}

// endless tells a term that contains itself.
func endless(name string, so int) api.Term {
	l := make([]api.Term, so)
	for i := range l {
		l[i] = api.Term{Op: api.TApp, Name: name, L: l}
	}
	return l[0]
}

// wide tells a term of just this size.
func wide(o, size int) api.Term {
	out := op(o)
	for i := range size - 1 {
		out.L = append(out.L, app("x"+strconv.Itoa(i)))
	}
	return out
}

// told tells an Euf that has these, all of which must be taken, and whether they can be.
func told(t *testing.T, l ...api.Lit) (*Euf, bool) {
	t.Helper()
	e, can := New(), true
	for _, x := range l {
		var err api.Errno
		if can, err = e.Assert(x); err != api.OK {
			t.Fatalf("P8.1: %s: %v", words(x), err)
		}
	}
	return e, can
}

// words tells literals as a text, for what went wrong.
func words(l ...api.Lit) string {
	var out []string
	for _, x := range l {
		text := term.Text(x.Atom)
		if x.Neg {
			text = "not " + text
		}
		out = append(out, text)
	}
	return strings.Join(out, "; ")
}

func opposites(l []api.Lit) []api.Lit {
	var out []api.Lit
	for _, x := range l {
		out = append(out, api.Lit{Neg: !x.Neg, Atom: x.Atom})
	}
	return out
}

func some(l []api.Lit, at []int) []api.Lit {
	var out []api.Lit
	for _, i := range at {
		out = append(out, l[i])
	}
	return out
}

func refusedAtoms() map[string]api.Term {
	a := app("a")
	return map[string]api.Term{
		"a variable": variable("x"), "all": all(yes()), "a variable within": app("f", a, app("g", variable("x"))), "all within": op(api.TNot, all(app("p", variable("x")))),
		"a variable on the left": same(variable("x"), a), "a variable on the right": same(a, app("f", variable("x"))), "both sides variables": same(variable("x"), variable("x")), "all on a side": same(all(yes()), yes()),
		"a TEq of none": op(api.TEq), "a TEq of one": op(api.TEq, a), "a TEq of three": op(api.TEq, a, a, a), "a TEq of four": op(api.TEq, a, a, a, a),
		"a wide one": wide(api.TAdd, api.MaxNodes+1), "a deep one": chain("f", api.MaxNodes, a), "a wide equation": same(wide(api.TAdd, api.MaxNodes-1), a), "a deep equation": same(a, chain("f", api.MaxNodes-2, a)),
		"two great sides": same(wide(api.TAdd, api.MaxNodes/2), wide(api.TAdd, api.MaxNodes/2)), "a shared one": doubled("f", 15, a), "a shared one, far greater": doubled("f", 100, a), "an endless one": endless("f", 1), "a wide endless one": endless("f", 3),
		"both great and not ground": op(api.TAdd, wide(api.TAdd, api.MaxNodes), variable("x")),
	}
}

func TestP8_1Refused(t *testing.T) {
	a, b, c := app("a"), app("b"), app("c")
	for what, atom := range refusedAtoms() {
		for _, neg := range []bool{false, true} {
			e, _ := told(t, is(same(a, b)))
			e.Push()
			if can, err := e.Assert(api.Lit{Neg: neg, Atom: atom}); can || err != api.ErrEuf {
				t.Errorf("P8.1: %s: %v, %v", what, can, err)
			}
			if len(e.Conflict()) != 0 || e.asserted != 1 || e.closure.refuted {
				t.Errorf("P8.1: %s: it changed something", what)
			}
			if can, err := e.Assert(is(same(b, c))); !can || err != api.OK {
				t.Errorf("P8.1: behind %s: %v, %v", what, can, err)
			}
			if why, ok := e.Explain(a, c); !ok || !slices.Equal(why, []int{0, 1}) {
				t.Errorf("P8.1: %s has a number: %v", what, why)
			}
			if !e.Pop() || e.Pop() || e.Equal(a, c) || !e.Equal(a, b) {
				t.Errorf("P8.1: %s: it changed what Pop takes back", what)
			}
		}
	}
}

func TestP8_1RefusedBehindAConflict(t *testing.T) {
	e, can := told(t, is(no()))
	if can {
		t.Error("P8.1: false")
	}
	if can, err := e.Assert(is(variable("x"))); can || err != api.ErrEuf || !slices.Equal(e.Conflict(), []int{0}) {
		t.Errorf("P8.1: %v, %v, %v", can, err, e.Conflict())
	}
}

func TestP8_1JustSoGreat(t *testing.T) {
	a := app("a")
	for what, atom := range map[string]api.Term{
		"a wide one": wide(api.TAdd, api.MaxNodes), "a deep one": chain("f", api.MaxNodes-1, a), "a wide equation": same(wide(api.TAdd, api.MaxNodes-2), a), "a deep equation": same(a, chain("f", api.MaxNodes-3, a)),
		"two sides": same(wide(api.TAdd, api.MaxNodes/2), wide(api.TAdd, api.MaxNodes/2-1)), "a shared one": app("g", doubled("f", 14, a)),
	} {
		e := New()
		if can, err := e.Assert(is(atom)); !can || err != api.OK {
			t.Errorf("P8.1: %s: %v, %v", what, can, err)
			continue
		}
		if can, err := e.Assert(isnt(atom)); can || err != api.OK || !slices.Equal(e.Conflict(), []int{0, 1}) {
			t.Errorf("P8.1: %s, and its opposite: %v, %v", what, can, err)
		}
	}
}

// TestP8_1Taken: what is no formula, and what no operator is, is a term all the same.
func TestP8_1Taken(t *testing.T) {
	a := app("a")
	for _, atom := range []api.Term{
		yes(), op(api.TTrue, a), op(api.TFalse, a), numeral("1"), numeral("junk"), numeral("", a), a, app(""), app("f", op(api.TEq)), app("f", op(api.TEq, a)), op(api.TNot, op(api.TEq, a, a, a)),
		op(api.TNot), op(api.TNot, no(), no()), op(api.TAnd), op(api.TOr, a), op(api.TImp, a), op(api.TIff), op(api.TLe, a), op(api.TLt), op(api.TAdd), op(api.TSub), op(api.TNeg), op(api.TMul, a), op(api.TIte), op(0), op(-1), op(1000, a), same(a, a), same(numeral("1"), yes()),
	} {
		if _, can := told(t, is(atom)); !can {
			t.Errorf("P8.1: %s can't be", words(is(atom)))
		}
	}
}

type listCase struct {
	can bool
	l   []api.Lit
}

// runLists asserts each list, in its order and the other way round, and asks for the verdict by each call that tells it.
func runLists(t *testing.T, cases []listCase) {
	t.Helper()
	for _, z := range cases {
		back := slices.Clone(z.l)
		slices.Reverse(back)
		for _, l := range [][]api.Lit{z.l, back} {
			e, can := told(t, l...)
			if can != z.can {
				t.Errorf("P8.1: %s: %v", words(l...), can)
			}
			checkConflict(t, e, l, z.can)
			if Valid(opposites(l)) != !z.can {
				t.Errorf("P8.4: %s", words(l...))
			}
			if _, can := saidBy(l); can != z.can {
				t.Errorf("the plain closure: %s: %v", words(l...), can)
			}
		}
	}
}

func TestP8_1Equations(t *testing.T) {
	a, b, c, d := app("a"), app("b"), app("c"), app("d")
	f := func(x api.Term) api.Term { return app("f", x) }
	g := func(x, y api.Term) api.Term { return app("g", x, y) }
	runLists(t, []listCase{
		{true, []api.Lit{is(same(a, a))}}, {false, []api.Lit{isnt(same(a, a))}}, {true, []api.Lit{is(same(a, b))}}, {true, []api.Lit{isnt(same(a, b))}},
		{false, []api.Lit{is(same(a, b)), isnt(same(a, b))}}, {false, []api.Lit{is(same(a, b)), isnt(same(b, a))}}, {true, []api.Lit{is(same(a, b)), isnt(same(a, c))}},
		{false, []api.Lit{is(same(a, b)), is(same(b, c)), isnt(same(c, a))}}, {false, []api.Lit{is(same(a, b)), is(same(c, d)), isnt(same(a, d)), is(same(c, b))}}, {true, []api.Lit{is(same(a, b)), is(same(c, d)), isnt(same(a, d))}},
		{true, []api.Lit{isnt(same(a, b)), isnt(same(b, c)), is(same(a, c))}}, {true, []api.Lit{isnt(same(a, b)), isnt(same(b, c)), isnt(same(a, c))}},
		{false, []api.Lit{is(same(a, b)), isnt(same(f(a), f(b)))}}, {true, []api.Lit{isnt(same(a, b)), is(same(f(a), f(b)))}}, {false, []api.Lit{is(same(a, b)), isnt(same(f(f(f(a))), f(f(f(b)))))}},
		{false, []api.Lit{is(same(a, b)), is(same(c, d)), isnt(same(g(a, c), g(b, d)))}}, {true, []api.Lit{is(same(a, b)), is(same(c, d)), isnt(same(g(a, c), g(d, b)))}}, {true, []api.Lit{is(same(a, b)), isnt(same(g(a, c), g(b, d)))}},
		{false, []api.Lit{is(same(f(a), b)), is(same(f(c), d)), is(same(a, c)), isnt(same(b, d))}}, {false, []api.Lit{is(same(g(a, b), a)), isnt(same(g(g(a, b), b), a))}}, {true, []api.Lit{is(same(g(a, b), a)), isnt(same(g(a, g(a, b)), a))}},
		{false, []api.Lit{isnt(same(f(a), f(b))), isnt(same(c, d)), is(same(a, c)), is(same(b, c))}},
	})
}

func TestP8_1OtherAtoms(t *testing.T) {
	a, b, p, q := app("a"), app("b"), app("p"), app("q")
	h := func(x api.Term) api.Term { return app("h", x) }
	le := func(x, y api.Term) api.Term { return op(api.TLe, x, y) }
	runLists(t, []listCase{
		{true, nil}, {true, []api.Lit{is(yes())}}, {false, []api.Lit{is(no())}}, {false, []api.Lit{isnt(yes())}}, {true, []api.Lit{isnt(no())}},
		{true, []api.Lit{is(p), isnt(q)}}, {false, []api.Lit{is(p), isnt(p)}}, {true, []api.Lit{is(p), is(p)}}, {false, []api.Lit{is(p), isnt(q), is(same(p, q))}}, {true, []api.Lit{is(p), is(q), is(same(p, q))}}, {false, []api.Lit{is(p), is(q), isnt(same(p, q))}}, {false, []api.Lit{isnt(p), isnt(q), isnt(same(q, p))}},
		{false, []api.Lit{is(same(p, yes())), isnt(p)}}, {false, []api.Lit{is(same(p, no())), is(p)}}, {false, []api.Lit{isnt(same(p, yes())), is(p)}}, {true, []api.Lit{isnt(same(p, yes())), isnt(p)}}, {true, []api.Lit{isnt(same(p, yes())), isnt(same(p, no()))}},
		{false, []api.Lit{is(h(a)), isnt(h(b)), is(same(a, b))}}, {true, []api.Lit{is(h(a)), isnt(h(b)), isnt(same(a, b))}}, {false, []api.Lit{is(le(a, b)), isnt(le(b, b)), is(same(a, b))}}, {true, []api.Lit{isnt(le(a, a))}}, {true, []api.Lit{is(le(a, b)), is(op(api.TLt, b, a))}},
		{true, []api.Lit{is(p), is(op(api.TNot, p))}}, {false, []api.Lit{is(p), is(q), is(op(api.TNot, p)), isnt(op(api.TNot, q))}}, {false, []api.Lit{isnt(op(api.TNot, yes())), is(p), is(op(api.TNot, p))}}, {true, []api.Lit{is(op(api.TAnd, p, q)), isnt(p)}},
		{false, []api.Lit{is(h(p)), is(p), isnt(h(yes()))}}, {false, []api.Lit{is(h(p)), isnt(p), isnt(h(no()))}}, {false, []api.Lit{is(same(h(yes()), no())), is(p), is(h(p))}}, {true, []api.Lit{is(same(yes(), yes()))}}, {false, []api.Lit{is(same(yes(), no()))}}, {true, []api.Lit{isnt(same(yes(), no()))}}, {false, []api.Lit{is(same(a, yes())), is(same(no(), a))}},
		{true, []api.Lit{is(op(api.TTrue, a)), is(op(api.TFalse, a))}}, {true, []api.Lit{isnt(op(api.TTrue, a))}}, {true, []api.Lit{is(same(op(api.TTrue, a), op(api.TFalse, a)))}}, {true, []api.Lit{is(same(op(api.TTrue, a), no()))}}, {false, []api.Lit{is(same(a, b)), is(op(api.TTrue, a)), isnt(op(api.TTrue, b))}},
	})
}

func TestP8_1Numbers(t *testing.T) {
	a, b := app("a"), app("b")
	one, two := numeral("1"), numeral("2")
	f := func(x api.Term) api.Term { return app("f", x) }
	runLists(t, []listCase{
		{true, []api.Lit{is(same(one, one))}}, {false, []api.Lit{isnt(same(one, one))}}, {false, []api.Lit{is(same(one, two))}}, {true, []api.Lit{isnt(same(one, two))}}, {false, []api.Lit{is(same(one, numeral("01")))}}, {false, []api.Lit{is(same(numeral("0"), numeral("-0")))}}, {false, []api.Lit{is(same(numeral("-1"), numeral("1")))}}, {false, []api.Lit{is(same(numeral(""), numeral("x")))}},
		{true, []api.Lit{is(same(a, one))}}, {false, []api.Lit{is(same(a, one)), is(same(a, two))}}, {true, []api.Lit{is(same(a, one)), is(same(b, two))}}, {false, []api.Lit{is(same(a, one)), is(same(b, two)), is(same(a, b))}}, {false, []api.Lit{is(same(one, f(a))), is(same(two, f(b))), is(same(a, b))}}, {true, []api.Lit{is(same(one, f(a))), is(same(one, f(b))), isnt(same(a, b))}},
		{true, []api.Lit{is(same(f(one), f(two)))}}, {true, []api.Lit{is(same(op(api.TAdd, one, two), one))}}, {true, []api.Lit{isnt(same(op(api.TAdd, one, two), numeral("3")))}}, {true, []api.Lit{is(same(op(api.TNeg, one), two))}},
		{true, []api.Lit{is(same(one, yes()))}}, {true, []api.Lit{is(one)}}, {true, []api.Lit{is(one), isnt(two)}}, {false, []api.Lit{is(one), is(two)}}, {false, []api.Lit{isnt(one), isnt(two)}}, {false, []api.Lit{is(same(one, yes())), is(same(one, no()))}}, {true, []api.Lit{is(same(app("1"), two)), is(same(app("2"), one))}},
		{true, []api.Lit{is(same(numeral("1", a), numeral("2", a)))}}, {true, []api.Lit{isnt(same(numeral("1", a), numeral("2", a)))}}, {true, []api.Lit{is(same(numeral("1", a), two))}}, {false, []api.Lit{is(same(numeral("1", a), two)), is(same(numeral("1", b), one)), is(same(a, b))}}, {true, []api.Lit{is(same(numeral("1", a), two)), is(same(numeral("3", a), one))}},
	})
}

// TestP8_1FunctionsApart: operators that are of one text, or of one name with more or fewer operands, are others all the same.
func TestP8_1FunctionsApart(t *testing.T) {
	a, b := app("a"), app("b")
	apart := []api.Term{
		a, app("a", a), app("a", a, a), app("a", a, a, a), app("(a a)"), app("a a"), app("f", a, b), app("f", b, a), app("f", app("f", a), b), app("f", a, app("f", b)), app("f", app("f", a, b)), app("f", app("f", a), app("f", b)), app("g", a, b),
		numeral("1"), app("1"), numeral("-1"), op(api.TSub, numeral("1")), op(api.TNeg, numeral("1")), numeral("1", a), numeral("1", a, a), numeral("2", a), app("1", a), yes(), app("true"), op(api.TTrue, a), no(), app("false"), op(api.TFalse, a), op(api.TTrue, a, a),
		op(api.TAdd), op(api.TAdd, a), op(api.TAdd, a, a), op(api.TAnd), op(api.TOr), op(api.TAnd, a), op(api.TOr, a), op(api.TNot, a), op(api.TEq, a), op(api.TEq, a, a), op(api.TEq), op(api.TIff, a, a), app("=", a, a), app("(= a a)"), op(0), op(-1), op(20), op(0, a), app("?"), app(""), app("17 a"), app(" a"), app(",1"),
	}
	for i := range 60 {
		apart = append(apart, app(strconv.Itoa(i+2)), app(" "+strconv.Itoa(i)), app(strconv.Itoa(i)+",3"))
	}
	e := New()
	for i, x := range apart {
		for k, y := range apart {
			if why, ok := e.Explain(x, y); e.Equal(x, y) != (i == k) || ok != (i == k) || len(why) != 0 {
				t.Errorf("P8.3: %d and %d: %s, %s", i, k, term.Text(x), term.Text(y))
			}
			if (i == k) != Valid([]api.Lit{is(same(x, y))}) {
				t.Errorf("P8.4: %d and %d: %s, %s", i, k, term.Text(x), term.Text(y))
			}
		}
	}
}

// TestP8_1TextsApart: no text of a number is taken for that under which another term is kept.
func TestP8_1TextsApart(t *testing.T) {
	e, _ := told(t, is(op(api.TTrue, app("a"))), is(op(api.TTrue, app("a"), app("b"))))
	for i := range 50 {
		for k := range i {
			if e.Equal(numeral(strconv.Itoa(i)), numeral(strconv.Itoa(k))) {
				t.Errorf("P8.3: %d and %d", i, k)
			}
		}
	}
}

// TestP8_1EachOperator: equality goes through every operator, at every place.
func TestP8_1EachOperator(t *testing.T) {
	a, b, c := app("a"), app("b"), app("c")
	for o := -1; o <= api.TAll+1; o++ {
		if o == api.TVar || o == api.TAll {
			continue
		}
		for n := 1; n <= 4; n++ {
			for at := range n {
				x, y, z := op(o), op(o), op(o)
				for i := range n {
					s := [3]api.Term{c, c, c}
					if i == at {
						s = [3]api.Term{a, b, app("d")}
					}
					x.L, y.L, z.L = append(x.L, s[0]), append(y.L, s[1]), append(z.L, s[2])
				}
				e, _ := told(t, isnt(app("q", c)), is(same(a, b)))
				if why, ok := e.Explain(x, y); !ok || !slices.Equal(why, []int{1}) || !e.Equal(app("k", x), app("k", y)) || e.Equal(x, z) {
					t.Errorf("P8.3: operator %d of %d at %d: %v, %v", o, n, at, why, ok)
				}
				if !Valid([]api.Lit{isnt(same(a, b)), is(same(app("k", x), app("k", y)))}) || Valid([]api.Lit{isnt(same(a, b)), is(same(app("k", x), app("k", z)))}) {
					t.Errorf("P8.4: operator %d of %d at %d", o, n, at)
				}
			}
		}
	}
}

// TestP8_1EquationsAsTerms: an equation that is asked as a term isn't told by its sides, nor are they by it.
func TestP8_1EquationsAsTerms(t *testing.T) {
	a, b := app("a"), app("b")
	ab := same(a, b)
	e, can := told(t, is(ab))
	if !can || e.Equal(ab, yes()) || e.Equal(ab, no()) || !e.Equal(ab, same(b, b)) || e.Equal(same(a, a), yes()) {
		t.Error("P8.1: a = b, asked as a term")
	}
	e, can = told(t, is(same(ab, yes())))
	if !can || e.Equal(a, b) || !e.Equal(ab, yes()) || e.Equal(same(b, a), yes()) {
		t.Error("P8.1: (a = b) = true")
	}
	runLists(t, []listCase{
		{true, []api.Lit{is(ab), is(same(ab, no()))}}, {true, []api.Lit{isnt(ab), is(same(ab, yes()))}}, {true, []api.Lit{is(ab), isnt(app("h", ab)), is(app("h", yes()))}}, {false, []api.Lit{is(ab), isnt(app("h", ab)), is(app("h", same(b, a)))}}, {true, []api.Lit{is(app("h", ab)), isnt(app("h", same(b, a)))}},
		{false, []api.Lit{is(same(ab, yes())), isnt(same(ab, yes()))}}, {false, []api.Lit{is(same(ab, yes())), is(same(ab, no()))}}, {true, []api.Lit{is(op(api.TNot, ab)), is(ab)}},
	})
}

func TestP8_1MoreBehindAConflict(t *testing.T) {
	a, b, c, d := app("a"), app("b"), app("c"), app("d")
	e, _ := told(t, is(same(a, b)))
	e.Push()
	for i, x := range []api.Lit{isnt(same(a, b)), is(same(b, c)), isnt(same(a, c)), is(same(c, d)), is(same(numeral("1"), numeral("2"))), is(no())} {
		if can, err := e.Assert(x); can || err != api.OK {
			t.Errorf("P8.1: %d behind a conflict: %v, %v", i, can, err)
		}
		if !slices.Equal(e.Conflict(), []int{0, 1}) {
			t.Errorf("P8.3: %d behind a conflict: %v", i, e.Conflict())
		}
	}
	if why, ok := e.Explain(app("f", a), app("f", d)); !ok || !slices.Equal(why, []int{0, 2, 4}) || !e.Equal(numeral("1"), numeral("2")) || !e.Equal(yes(), no()) || e.Equal(a, numeral("1")) {
		t.Errorf("P8.3: behind a conflict: %v, %v", why, ok)
	}
	if !e.Pop() || len(e.Conflict()) != 0 || e.Equal(c, d) || e.Equal(yes(), no()) || !e.Equal(a, b) {
		t.Error("P8.2: a conflict stays")
	}
	if can, _ := e.Assert(is(same(c, d))); !can {
		t.Error("P8.2: what was taken back still can't be")
	}
	if why, _ := e.Explain(c, d); !slices.Equal(why, []int{1}) {
		t.Errorf("P8.2: %v", why)
	}
}

func TestExampleOfTheChapter(t *testing.T) {
	a := app("a")
	f := func(n int) api.Term { return chain("f", n, a) }
	e, can := told(t, is(same(f(3), a)))
	if !can || e.Equal(f(1), a) || !e.Equal(f(3), a) || !e.Equal(f(300), a) || e.Equal(f(301), a) {
		t.Error("P8.1: f(f(f a)) = a alone")
	}
	if can, _ := e.Assert(is(same(f(5), a))); !can {
		t.Error("P8.1: both can be")
	}
	if why, ok := e.Explain(f(1), a); !ok || !slices.Equal(why, []int{0, 1}) || !e.Equal(f(1), a) || !e.Equal(f(1001), f(2)) {
		t.Errorf("P8.1: f a = a: %v, %v", why, ok)
	}
	if can, _ := e.Assert(isnt(same(f(1), a))); can || !slices.Equal(e.Conflict(), []int{0, 1, 2}) {
		t.Errorf("P8.3: %v", e.Conflict())
	}
}

func TestP8_4Valid(t *testing.T) {
	a, b, c := app("a"), app("b"), app("c")
	for _, z := range []struct {
		c    []api.Lit
		want bool
	}{
		{nil, false}, {[]api.Lit{}, false}, {[]api.Lit{is(same(a, a))}, true}, {[]api.Lit{isnt(same(a, a))}, false}, {[]api.Lit{is(same(a, b))}, false}, {[]api.Lit{isnt(same(a, b))}, false}, {[]api.Lit{is(yes())}, true}, {[]api.Lit{isnt(yes())}, false}, {[]api.Lit{isnt(no())}, true}, {[]api.Lit{is(no())}, false}, {[]api.Lit{is(a)}, false}, {[]api.Lit{isnt(a)}, false},
		{[]api.Lit{is(a), isnt(a)}, true}, {[]api.Lit{is(same(a, b)), isnt(same(b, a))}, true}, {[]api.Lit{isnt(same(a, b)), isnt(same(b, c)), is(same(a, c))}, true}, {[]api.Lit{is(same(a, b)), is(same(b, c)), is(same(a, c))}, false}, {[]api.Lit{isnt(same(numeral("1"), numeral("2")))}, true}, {[]api.Lit{is(same(numeral("1"), numeral("2")))}, false},
		{[]api.Lit{is(variable("x"))}, false}, {[]api.Lit{is(same(variable("x"), variable("x")))}, false}, {[]api.Lit{is(op(api.TEq))}, false}, {[]api.Lit{isnt(op(api.TEq, a, a, a))}, false}, {[]api.Lit{is(all(yes())), isnt(all(yes()))}, false}, {[]api.Lit{is(variable("x")), isnt(variable("x"))}, false}, {[]api.Lit{is(wide(api.TAdd, api.MaxNodes+1)), isnt(wide(api.TAdd, api.MaxNodes+1))}, false}, {[]api.Lit{is(wide(api.TAdd, api.MaxNodes)), isnt(wide(api.TAdd, api.MaxNodes))}, true},
		{[]api.Lit{is(same(a, a)), is(variable("x"))}, true}, {[]api.Lit{is(op(api.TEq)), is(a), is(variable("x")), isnt(a)}, true},
	} {
		if got := Valid(z.c); got != z.want {
			t.Errorf("P8.4: %s: %v", words(z.c...), got)
		}
	}
}
