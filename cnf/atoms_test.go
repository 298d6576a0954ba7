package cnf

import (
	"math/rand"
	"reflect"
	"slices"
	"testing"

	"avow/api"
	"avow/term"
)

type atomsCase struct {
	t    api.Term
	want string
}

func runAtoms(t *testing.T, cases []atomsCase) {
	t.Helper()
	for i, z := range cases {
		got := Atoms(z.t)
		if words(got) != z.want {
			t.Errorf("P5.1: %d: Atoms of %.100s: %v, wanted %s", i, term.Text(z.t), texts(got), z.want)
		}
		// Fields that an operator doesn't name say nothing, and there is nothing in them in an answer.
		if other := Atoms(garbage(z.t)); !reflect.DeepEqual(other, got) {
			t.Errorf("P5.1: %d: with other fields: %v, wanted %v", i, other, got)
		}
	}
}

func TestAtomsOfEachOperator(t *testing.T) {
	a, b, p, q, r, o, u := app("a"), app("b"), app("p"), app("q"), app("r"), app("o"), app("u")
	runAtoms(t, []atomsCase{
		{op(api.TTrue), ""}, {op(api.TFalse), ""}, {not(op(api.TTrue)), ""}, {and(), ""}, {or(), ""}, {and(op(api.TFalse), or(and())), ""},
		{not(p), "p"}, {not(not(p)), "p"}, {and(p), "p"}, {and(p, q, r), "p q r"}, {or(r, q, p), "r q p"}, {op(api.TImp, p, q), "p q"}, {op(api.TImp, q, p), "q p"}, {op(api.TIff, p, q), "p q"}, {op(api.TIff, q, p), "q p"},
		{op(api.TLe, a, b), "(<= a b)"}, {op(api.TLt, a, b), "(< a b)"}, {same(a, b), "(= a b)"}, {same(o, u), "(= o u)"}, {same(numeral("1"), numeral("-1")), "(= 1 (- 1))"},
		{same(a, op(api.TAdd, a)), "(= a (+ a))"}, {same(a, op(api.TSub, a, b)), "(= a (- a b))"}, {same(a, op(api.TNeg, b)), "(= a (neg b))"}, {same(a, op(api.TMul, numeral("2"), b)), "(= a (* 2 b))"}, {same(a, app("f", b)), "(= a (f b))"}, {same(a, variable("x", ints)), "(= a x)"},
		{p, "p"}, {app("h", a, p), "(h a p)"}, {not(app("h", a, not(p))), "(h a (not p))"}, {variable("x", bools), "x"}, {or(variable("x", bools), p, variable("x", bools)), "x p"},
		{all(p, "x"), "(forall (x int) (pattern (f x)) p)"}, {not(all(or(p, q), "x")), "(forall (x int) (pattern (f x)) (or p q))"}, {all(all(p, "y"), "x"), "(forall (x int) (pattern (f x)) (forall (y int) (pattern (f y)) p))"},
	})
}

func TestAtomsStandOnceInOrder(t *testing.T) {
	a, b, p, q, r := app("a"), app("b"), app("p"), app("q"), app("r")
	le, lt := op(api.TLe, a, b), op(api.TLt, a, b)
	x, y := variable("x", bools), app("x")
	runAtoms(t, []atomsCase{
		{and(p, p, p), "p"}, {or(q, p, q, p), "q p"}, {op(api.TIff, p, not(p)), "p"}, {and(or(r, p), or(q, r), or(p, q)), "r p q"},
		{or(and(not(le), p), lt, op(api.TImp, p, le), q), "(<= a b) p (< a b) q"}, {ite(r, or(q), and(p)), "r q p"}, {same(r, or(q, p)), "r q p"},
		{and(or(p, and(q)), or(p, and(q)), r), "p q r"}, {and(op(api.TLe, a, b), op(api.TLe, b, a), op(api.TLe, a, b)), "(<= a b) (<= b a)"},
		// By all that term.Same asks: texts may be alike.
		{and(x, y, x), "x x"}, {and(x, variable("x", ints)), "x x"}, {and(all(app("h", variable("x", ints), p), "x"), all(app("h", y, p), "x")), "(forall (x int) (pattern (f x)) (h x p)) (forall (x int) (pattern (f x)) (h x p))"},
		{and(all(p, "x"), all(p, "y"), all(p, "x"), all(p, "x", "y"), all(q, "x")), "(forall (x int) (pattern (f x)) p) (forall (y int) (pattern (f y)) p) (forall (x int y int) (pattern (f x) (f y)) p) (forall (x int) (pattern (f x)) q)"},
		{and(app("1"), numeral("1"), app("1")), "1 1"}, {and(app("h", a, p), app("h", p, a), app("h", a), app("h", a, p, p)), "(h a p) (h p a) (h a) (h a p p)"},
	})
	other := all(p, "x")
	other.Pat = []api.Term{app("f", app("f", variable("x", ints)))}
	wider := all(p, "x")
	wider.Vars[0].Sort = objs
	runAtoms(t, []atomsCase{{and(all(p, "x"), other, wider, all(p, "x")), "(forall (x int) (pattern (f x)) p) (forall (x int) (pattern (f (f x))) p) (forall (x obj) (pattern (f x)) p)"}})
}

func TestAtomsWithinAtoms(t *testing.T) {
	a, b, p, q := app("a"), app("b"), app("p"), app("q")
	le := op(api.TLe, a, b)
	inner := ite(le, a, b)
	runAtoms(t, []atomsCase{
		{app("h", a, le), "(h a (<= a b))"}, {op(api.TLt, inner, b), "(< (ite (<= a b) a b) b)"}, {same(a, inner), "(= a (ite (<= a b) a b))"}, {same(inner, a), "(= (ite (<= a b) a b) a)"},
		{or(app("h", a, le), le, app("h", a, le)), "(h a (<= a b)) (<= a b)"}, {or(le, app("h", a, or(p, q)), p), "(<= a b) (h a (or p q)) p"},
		{and(all(or(p, q), "x"), q), "(forall (x int) (pattern (f x)) (or p q)) q"}, {app("h", a, app("h", b, p)), "(h a (h b p))"},
	})
}

// A TEq, a TIte is of formulas, if its last operand is told as one by its shape; the other operands aren't asked.
func TestAtomsByShape(t *testing.T) {
	a, b, p, q, r := app("a"), app("b"), app("p"), app("q"), app("r")
	shapes := []atomsCase{
		{op(api.TTrue), ""}, {op(api.TFalse), ""}, {not(q), " q"}, {and(q), " q"}, {or(q), " q"}, {op(api.TImp, q, r), " q r"}, {op(api.TIff, q, r), " q r"},
		{same(q, r), " (= q r)"}, {same(a, b), " (= a b)"}, {same(q, not(r)), " q r"}, {op(api.TLe, a, b), " (<= a b)"}, {op(api.TLt, a, b), " (< a b)"}, {all(q, "x"), " (forall (x int) (pattern (f x)) q)"},
		{ite(q, r, not(p)), " q r"}, {ite(q, a, same(a, b)), " q a (= a b)"}, {ite(r, q, ite(p, q, op(api.TLt, a, b))), " r q (< a b)"}, {same(q, ite(r, q, ite(p, q, and()))), " q r"},
	}
	for i, z := range shapes {
		runAtoms(t, []atomsCase{{same(p, z.t), "p" + z.want}, {ite(p, p, z.t), "p" + z.want}, {same(p, ite(p, p, z.t)), "p" + z.want}, {ite(p, p, same(p, z.t)), "p" + z.want}, {ite(p, p, ite(p, p, ite(p, p, z.t))), "p" + z.want}})
		if t.Failed() {
			t.Fatalf("P5.1: with the last operand %d", i)
		}
	}
	for i, last := range []api.Term{p, app("h", a, not(p)), variable("x", bools), a, numeral("1"), op(api.TAdd, a), op(api.TSub, a, b), op(api.TNeg, a), op(api.TMul, numeral("2"), a), ite(not(p), not(q), r), ite(p, q, ite(p, not(q), variable("x", bools)))} {
		for _, x := range []api.Term{same(not(p), last), ite(not(p), not(q), last), same(or(p, q), ite(p, or(q), last))} {
			runAtoms(t, []atomsCase{{x, term.Text(x)}, {or(not(x), x), term.Text(x)}})
		}
		if t.Failed() {
			t.Fatalf("P5.1: with the last operand %d", i)
		}
	}
	// A TEq is always a formula, but of formulas only by its own last operand.
	runAtoms(t, []atomsCase{{same(not(p), same(q, r)), "p (= q r)"}, {same(same(q, r), p), "(= (= q r) p)"}, {ite(p, same(q, r), same(not(p), q)), "p (= q r) (= (not p) q)"}})
}

// What isn't a formula, where one stands: nothing is promised but that it is answered.
func TestAtomsOfNoFormulas(t *testing.T) {
	a, p, q := app("a"), app("p"), app("q")
	for i, x := range []api.Term{{}, op(99), op(-1, p), numeral("1"), numeral("x"), op(api.TAdd, a, a), app(""), op(api.TEq), op(api.TIte), op(api.TEq, p), op(api.TIte, p, q), op(api.TAll), op(api.TLe)} {
		for _, y := range []api.Term{x, not(x), and(x, x), op(api.TAnd, op(api.TTrue), x)} {
			if got := Atoms(y); len(got) != 1 || !term.Same(got[0], x) {
				t.Errorf("P5.1: %d: %v", i, texts(got))
			}
		}
	}
	runAtoms(t, []atomsCase{{op(api.TNot), ""}, {op(api.TNot, p, q), "p q"}, {op(api.TImp, p), "p"}, {op(api.TIff, p, q, p), "p q"}, {op(api.TEq, p, not(q), or(a)), "p q a"}, {op(api.TEq, or(p)), "p"}, {op(api.TIte, p, or(q)), "p q"}})
}

func TestAtomsOfRandomFormulas(t *testing.T) {
	m := generator{r: rand.New(rand.NewSource(3)), quantified: true}
	for range 2000 {
		x := m.formula(6)
		if _, e := term.Check(sigOf(), x); e != api.OK {
			t.Fatalf("no formula: %s: %v", term.Text(x), e)
		}
		got, want := Atoms(x), slowAtoms(nil, x)
		if !slices.EqualFunc(got, want, term.Same) {
			t.Fatalf("P5.1: Atoms of %s: %v, wanted %v", term.Text(x), texts(got), texts(want))
		}
		scribble(t, got, map[any]bool{})
		if again := Atoms(x); !slices.EqualFunc(again, want, term.Same) {
			t.Fatalf("P5.1: Atoms of %s again: %v", term.Text(x), texts(again))
		}
	}
}

func TestAtomsOfDeepAndGreatFormulas(t *testing.T) {
	p := app("p")
	for _, so := range []int{api.MaxDepth - 1, 9999} {
		deep, under := p, []int{api.TNot, api.TAnd, api.TOr}
		last, choices := or(p), or(p)
		for i := range so {
			deep = op(under[i%3], deep)
			last, choices = same(prop(i%5), last), ite(prop(i%5), prop(7), choices)
		}
		if got := Atoms(deep); words(got) != "p" {
			t.Errorf("P5.1: of %d deep: %d", so, len(got))
		}
		if got := Atoms(last); len(got) != 6 || term.Text(got[5]) != "p" {
			t.Errorf("P5.1: of %d TEqs: %v", so, texts(got))
		}
		if got := Atoms(choices); len(got) != 7 || term.Text(got[6]) != "p" {
			t.Errorf("P5.1: of %d TItes: %v", so, texts(got))
		}
	}
	great := and()
	for i := range 16000 {
		great.L = append(great.L, op(api.TLe, app("a"), numeral(string(rune('0'+i%10)))))
	}
	if got := Atoms(great); len(got) != 10 {
		t.Errorf("P5.1: of a great formula: %d", len(got))
	}
	for i := range great.L {
		great.L[i] = app("f", op(api.TNot, numeral("1")), numeral(string(rune(i+100))))
	}
	if got := Atoms(great); !slices.EqualFunc(got, great.L, term.Same) {
		t.Errorf("P5.1: of a great formula of unlike atoms: %d", len(got))
	}
}

// Formulas that share lists, or are deeper than any limit, or contain themselves: calls end, and don't panic.
func TestAtomsEnds(t *testing.T) {
	p := app("p")
	if got := Atoms(doubled(api.TAnd, 200, or(p, app("q")))); words(got) != "p q" {
		t.Errorf("P5.1: of shared lists: %v", texts(got))
	}
	if got := Atoms(doubled(api.TIff, 200, p)); words(got) != "p" {
		t.Errorf("P5.1: of shared lists: %v", texts(got))
	}
	patterns := all(p, "x")
	patterns.Pat = []api.Term{doubled(api.TAdd, 200, p)}
	Atoms(patterns)
	Atoms(and(p, patterns, patterns))
	Atoms(app("f", doubled(api.TAdd, 200, p)))
	Atoms(or(p, doubled(api.TApp, 200, p)))
	for _, o := range []int{0, api.TNot, api.TAnd, api.TOr, api.TEq, api.TIte, api.TApp, api.TAll} {
		for _, so := range []int{1, 2, 3} {
			Atoms(and(p, endless(o, so)))
		}
	}
	for _, so := range []int{60000, 70000, 200000} {
		Atoms(chain(api.TNot, so, p))
		Atoms(chain(api.TIte, so, or(p)))
		Atoms(chain(api.TApp, so, p))
	}
}

// What is handed in isn't changed, the spare room behind lists included.
func TestAtomsKeepsArguments(t *testing.T) {
	m := generator{r: rand.New(rand.NewSource(4)), quantified: true}
	for range 200 {
		x := garbage(m.formula(5))
		before := whole(x)
		scribble(t, Atoms(x), map[any]bool{})
		if !reflect.DeepEqual(whole(x), before) {
			t.Fatalf("P5.1: an argument has changed: %s", term.Text(x))
		}
	}
}
