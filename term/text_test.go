package term

import (
	"math/rand"
	"slices"
	"strings"
	"testing"

	"avow/api"
)

func TestTextOfEachOperator(t *testing.T) {
	a, b, fx := app("a"), app("b"), app("f", intVar("x"))
	with := func(t api.Term, l ...api.Term) api.Term { t.L = l; return t }
	for _, z := range []struct {
		t    api.Term
		text string
	}{
		{number("0"), "0"}, {number("12"), "12"}, {number("-12"), "(- 12)"}, {number("-123456789012345678901"), "(- 123456789012345678901)"}, {number(""), ""}, {number("x y"), "x y"}, {with(number("7"), a), "7"},
		{op(api.TTrue), "true"}, {op(api.TFalse), "false"}, {op(api.TTrue, a), "true"}, {op(api.TFalse, a), "false"},
		{op(api.TNot, a), "(not a)"}, {op(api.TAnd, a, b, a), "(and a b a)"}, {op(api.TAnd), "(and)"}, {op(api.TOr, a, b), "(or a b)"}, {op(api.TOr), "(or)"}, {op(api.TImp, a, b), "(=> a b)"}, {op(api.TIff, a, b), "(iff a b)"}, {op(api.TEq, a, b), "(= a b)"}, {op(api.TLe, a, b), "(<= a b)"}, {op(api.TLt, a, b), "(< a b)"},
		{op(api.TAdd, a, b), "(+ a b)"}, {op(api.TAdd), "(+)"}, {op(api.TSub, a, b), "(- a b)"}, {op(api.TNeg, a), "(neg a)"}, {op(api.TMul, number("-2"), b), "(* (- 2) b)"}, {op(api.TIte, a, b, a), "(ite a b a)"},
		{a, "a"}, {app("f", a), "(f a)"}, {app("k", app("f", b), a), "(k (f b) a)"}, {app(""), ""}, {app("", a), "( a)"}, {app("x y", a), "(x y a)"},
		{intVar("x"), "x"}, {sortedVar("x", 9), "x"}, {with(intVar("x"), a), "x"},
		{api.Term{}, "(?)"}, {op(77), "(?)"}, {op(-1, a, b), "(? a b)"}, {op(api.TAll+1, op(api.TNot)), "(? (not))"},
		{all(bounds(api.SortInt, "x"), op(api.TLe, number("0"), fx), fx), "(forall (x int) (pattern (f x)) (<= 0 (f x)))"},
		{all([]api.Bound{{Name: "x", Sort: api.SortInt}, {Name: "y", Sort: api.SortBool}, {Name: "z", Sort: api.SortObj}}, b, fx, a), "(forall (x int y bool z obj) (pattern (f x) a) b)"},
		{op(api.TAll), "(forall () (pattern ) )"}, {api.Term{Op: api.TAll, L: []api.Term{a, b}}, "(forall () (pattern ) a b)"}, {all(bounds(9, "x", "y"), a), "(forall (x ? y ?) (pattern ) a)"},
	} {
		if got := Text(z.t); got != z.text {
			t.Errorf("P3.3: %q, wanted %q", got, z.text)
		}
		if got := Text(garbage(z.t)); got != z.text {
			t.Errorf("P3.3: with other fields: %q, wanted %q", got, z.text)
		}
	}
}

func TestTextOfDeepAndGreatTerms(t *testing.T) {
	want := strings.Repeat("(neg ", 9999) + "a" + strings.Repeat(")", 9999)
	if got := Text(chain(api.TNeg, 9999, app("a"))); got != want {
		t.Errorf("P3.3: a deep term: %d bytes, wanted %d", len(got), len(want))
	}
	if got := Text(fan(api.TAdd, 100000, number("-1"))); got != "(+"+strings.Repeat(" (- 1)", 100000)+")" {
		t.Errorf("P3.3: a great term: %d bytes", len(got))
	}
}

func TestSameOfFields(t *testing.T) {
	a, b, fx := app("a"), app("b"), app("f", intVar("x"))
	x := bounds(api.SortInt, "x")
	// Each of these is the same as itself alone.
	unlike := []api.Term{
		{}, op(-1), op(99), op(99, a),
		number("1"), number("01"), number("-1"), number(""), {Op: api.TNum, N: "1", L: []api.Term{a}},
		op(api.TTrue), op(api.TFalse), op(api.TTrue, a),
		op(api.TNot, a), op(api.TNot, b), op(api.TNot), op(api.TNot, a, a),
		op(api.TAnd), op(api.TAnd, a), op(api.TAnd, a, b), op(api.TAnd, b, a), op(api.TAnd, a, b, b),
		op(api.TOr, a, b), op(api.TImp, a, b), op(api.TIff, a, b), op(api.TEq, a, b), op(api.TLe, a, b), op(api.TLt, a, b), op(api.TAdd, a, b), op(api.TSub, a, b), op(api.TNeg, a), op(api.TMul, a, b), op(api.TIte, a, b, b),
		a, b, app(""), app("1"), app("f", a), app("f", b), app("f", a, a), app("g", a), app("f", app("f", a)), fx,
		intVar("a"), intVar("x"), intVar("1"), sortedVar("x", api.SortObj), sortedVar("x", 0), app("f", sortedVar("x", api.SortObj)), {Op: api.TVar, Name: "x", Sort: api.SortInt, L: []api.Term{a}},
		all(x, a, fx), all(x, b, fx), all(x, a), all(x, a, fx, fx), all(x, a, app("f", a)), all(nil, a, fx), all(bounds(api.SortObj, "x"), a, fx), all(bounds(api.SortInt, "y"), a, fx), all(bounds(api.SortInt, "x", "y"), a, fx), all(bounds(api.SortInt, "y", "x"), a, fx), all(x, a, fx, a), all(x, a, a, fx),
		op(api.TAll), {Op: api.TAll, Vars: x, Pat: []api.Term{fx}}, {Op: api.TAll, Vars: x, Pat: []api.Term{fx}, L: []api.Term{a, a}},
		all(x, all(x, a, fx), fx), all(x, all(x, a, app("f", a)), fx), all(x, a, all(x, a, fx)), all(x, a, all(x, a, app("f", a))),
	}
	for i, s := range unlike {
		for j, u := range unlike {
			if Same(s, u) != (i == j) || Same(s, whole(u)) != (i == j) || Same(garbage(s), whole(u)) != (i == j) {
				t.Errorf("P3.2: Same of %s (%d) and %s (%d): %v", Text(s), i, Text(u), j, Same(s, u))
			}
		}
	}
	deepTerm := chain(api.TNeg, 9999, a)
	if !Same(deepTerm, chain(api.TNeg, 9999, a)) || Same(deepTerm, chain(api.TNeg, 9999, b)) || Same(deepTerm, chain(api.TNeg, 9998, a)) {
		t.Error("P3.2: Same of deep terms")
	}
	great := fan(api.TAdd, 60000, app("f", a))
	other := fan(api.TAdd, 60000, app("f", a))
	if !Same(great, other) {
		t.Error("P3.2: Same of great terms")
	}
	other.L[59999] = app("f", b)
	if Same(great, other) {
		t.Error("P3.2: great terms with unlike ends are the same")
	}
}

// Of terms that Check takes, with variables and functions that have no name in common, texts tell the terms, but for what the sorts of variables say.
func TestSameByTexts(t *testing.T) {
	m := maker{r: rand.New(rand.NewSource(3))}
	var terms []api.Term
	for range 400 {
		terms = append(terms, m.of(1+m.r.Intn(3), 3))
	}
	for _, a := range terms {
		for _, b := range terms {
			if Same(a, b) != (Text(a) == Text(b)) {
				t.Fatalf("P3.2: Same of %s and %s: %v", Text(a), Text(b), Same(a, b))
			}
		}
		if !Same(a, garbage(whole(a))) {
			t.Fatalf("P3.2: %s isn't the same as itself with other fields", Text(a))
		}
	}
}

func texts(l []api.Term) []string {
	out := []string{}
	for _, t := range l {
		out = append(out, Text(t))
	}
	return out
}

func sameTexts(l []api.Term, want ...string) bool { return slices.Equal(texts(l), want) }
