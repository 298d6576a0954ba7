package term

import (
	"math/rand"
	"reflect"
	"slices"
	"testing"

	"avow/api"
)

func TestAppsOfTerms(t *testing.T) {
	a, b, x := app("a"), app("b"), intVar("x")
	fa := app("f", a)
	with := func(t api.Term, l ...api.Term) api.Term { t.L = l; return t }
	for i, z := range []struct {
		t    api.Term
		want []string
	}{
		{a, []string{"a"}}, {number("1"), nil}, {op(api.TTrue), nil}, {x, nil}, {app("f", x), nil}, {api.Term{}, nil}, {op(api.TAnd), nil},
		{app("f", fa), []string{"a", "(f a)", "(f (f a))"}},
		{op(api.TAnd, b, a, b, a), []string{"b", "a"}},
		{app("k", b, fa), []string{"b", "a", "(f a)", "(k b (f a))"}},
		{op(api.TEq, fa, app("f", fa)), []string{"a", "(f a)", "(f (f a))"}},
		{op(api.TEq, app("f", fa), fa), []string{"a", "(f a)", "(f (f a))"}},
		{app("k", app("f", number("1")), op(api.TAdd, number("1"), a)), []string{"(f 1)", "a", "(k (f 1) (+ 1 a))"}},
		// What isn't ground isn't told, what is ground in it is.
		{app("k", x, fa), []string{"a", "(f a)"}}, {app("k", fa, x), []string{"a", "(f a)"}}, {app("k", app("f", app("k", b, x)), a), []string{"b", "a"}},
		// Not within TAlls: neither the body nor patterns.
		{all(bounds(api.SortInt, "x"), op(api.TAnd, a, app("f", x)), app("f", x), b), nil},
		{op(api.TAnd, all(bounds(api.SortInt, "x"), a, b), b, all(nil, fa), app("h", fa, all(nil, b))), []string{"b", "a", "(f a)"}},
		// By all that Same asks: other operators, numbers, numbers of operands.
		{op(api.TAnd, app("f", op(api.TAdd, a)), app("f", op(api.TNeg, a)), app("f", a), app("f", a, a), app("g", a)), []string{"a", "(f (+ a))", "(f (neg a))", "(f a)", "(f a a)", "(g a)"}},
		{op(api.TAnd, app("f", number("1")), app("f", number("01")), app("f", app("1")), app("f", number("1"))), []string{"(f 1)", "(f 01)", "1", "(f 1)"}},
		{op(api.TAnd, app("f", number("-1")), app("f", op(api.TSub, number("1")))), []string{"(f (- 1))", "(f (- 1))"}},
		{op(api.TAnd, app("f", op(77)), app("f", op(78)), app("f", op(77))), []string{"(f (?))", "(f (?))"}},
		{op(api.TAnd, app("f", a, app("g", b)), app("f", app("g", a), b), app("f", a, b)), []string{"a", "b", "(g b)", "(f a (g b))", "(g a)", "(f (g a) b)", "(f a b)"}},
		// Operands where there should be none are operands.
		{with(x, fa), []string{"a", "(f a)"}}, {app("f", with(number("1"), b)), []string{"b", "(f 1)"}}, {op(99, a), []string{"a"}},
	} {
		got := Apps(z.t)
		if !sameTexts(got, z.want...) {
			t.Errorf("P3.4: %d: Apps: %v, wanted %v", i, texts(got), z.want)
		}
		if other := Apps(garbage(z.t)); !reflect.DeepEqual(other, got) {
			t.Errorf("P3.4: %d: with other fields: %v, wanted %v", i, other, got)
		}
	}
}

// slowApps tells the same as Apps, by the words of the promise.
func slowApps(t api.Term, out []api.Term) []api.Term {
	if t.Op == api.TAll {
		return out
	}
	for _, x := range t.L {
		out = slowApps(x, out)
	}
	if t.Op == api.TApp && slowGround(t) && !slices.ContainsFunc(out, func(x api.Term) bool { return Same(x, t) }) {
		out = append(out, t)
	}
	return out
}

func TestAppsOfRandomTerms(t *testing.T) {
	m := maker{r: rand.New(rand.NewSource(5))}
	for range 2000 {
		x := m.of(api.SortBool, 7)
		got, want := Apps(x), slowApps(x, nil)
		if !slices.EqualFunc(got, want, Same) {
			t.Fatalf("P3.4: Apps of %s: %v, wanted %v", Text(x), texts(got), texts(want))
		}
		scribble(t, got, map[any]bool{})
	}
}

func TestAppsOfDeepAndGreatTerms(t *testing.T) {
	x := app("a")
	for range api.MaxDepth - 1 {
		x = app("f", x)
	}
	if got := Apps(x); len(got) != api.MaxDepth || !Same(got[api.MaxDepth-1], x) || !Same(got[0], app("a")) {
		t.Errorf("P3.4: Apps of a deep term tells %d", len(got))
	}
	great := fan(api.TAnd, 0, x)
	for i := range 20000 {
		great.L = append(great.L, app("f", number(string(rune('0'+i%10)))), app("g", app("o")))
	}
	if got := Apps(great); len(got) != 12 {
		t.Errorf("P3.4: Apps of a great term tells %d", len(got))
	}
}
