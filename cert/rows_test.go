package cert_test

import (
	"math/rand"
	"reflect"
	"slices"
	"strings"
	"testing"

	"avow/api"
	"avow/cert"
)

// rowsText tells rows.
func rowsText(l []api.Lin) string {
	var out []string
	for _, x := range l {
		words := []string{}
		for _, c := range x.C {
			words = append(words, c.N, c.Name)
		}
		out = append(out, strings.Join(append(words, "<=", x.K), " "))
	}
	return strings.Join(out, "; ")
}

// tells asks Rows of c, and wants these rows.
func tells(t *testing.T, want string, c ...api.Lit) {
	t.Helper()
	if got, ok := cert.Rows(c); !ok || rowsText(got) != want {
		t.Errorf("P12.2: %.300s: %.300s, %v, wanted %.300s", text(c), rowsText(got), ok, want)
	}
}

// tellsNone asks Rows of c, of which there are none.
func tellsNone(t *testing.T, c ...api.Lit) {
	t.Helper()
	if got, ok := cert.Rows(c); ok || len(got) != 0 {
		t.Errorf("P12.2: %.300s: %.300s, %v", text(c), rowsText(got), ok)
	}
}

// TestRowsOfLiterals: which literals say what.
func TestRowsOfLiterals(t *testing.T) {
	a, b, p, q, o, u := app("a"), app("b"), app("p"), app("q"), app("o"), app("u")
	tells(t, "1 a -1 b <= 0", neg(atMost(a, b)))
	tells(t, "-1 a 1 b <= -1", pos(atMost(a, b)))
	tells(t, "1 a -1 b <= -1", neg(less(a, b)))
	tells(t, "-1 a 1 b <= 0", pos(less(a, b)))
	tells(t, "1 a -1 b <= 0; -1 a 1 b <= 0", neg(same(a, b)))
	tells(t, "", pos(same(a, b)))
	tells(t, "")
	tells(t, "1 o -1 u <= 0; -1 o 1 u <= 0", neg(same(o, u)))
	tells(t, "1 p -1 q <= 0; -1 p 1 q <= 0", neg(same(p, q)))
	tells(t, "-1 a 1 b <= 0; 1 b <= 4; -1 b <= -4; 1 a <= -1", pos(p), pos(less(a, b)), pos(same(o, u)), neg(same(b, numeral("4"))), neg(not(p)), neg(less(a, numeral("0"))))
	// A side that is a formula by its shape says that it is no number.
	forall := all("x", p, app("f", variable("x", ints)))
	for _, f := range terms(yes(), no(), not(p), op(api.TAnd), op(api.TOr, p), op(api.TImp, p, q), op(api.TIff, p, q), same(a, b), atMost(a, b), less(a, b), forall, ite(p, q, yes()), ite(p, q, ite(p, q, less(a, b))), op(api.TIte, yes()), op(api.TIff)) {
		tells(t, "", neg(same(f, p)))
		tells(t, "", neg(same(p, f)))
		tells(t, "", neg(same(f, f)))
	}
	tells(t, "-1 (ite p true q) 1 p <= 0; 1 (ite p true q) -1 p <= 0", neg(same(p, ite(p, yes(), q))))
	tells(t, "-1 (ite) 1 p <= 0; 1 (ite) -1 p <= 0", neg(same(p, op(api.TIte))))
	tells(t, "1 (ite p a b) -1 a <= -1", neg(less(ite(p, a, b), a)))
	tells(t, "-1 (<= a b) 1 true <= 0", neg(atMost(yes(), atMost(a, b))))
	// Other literals none, be they ground or not.
	for _, f := range terms(p, forall, not(less(a, b)), app("h", variable("y", objs)), op(api.TLe), op(api.TLe, a), op(api.TLt, a, b, a), op(api.TEq, a), op(api.TEq, a, b, b), op(api.TEq), numeral("x"), op(api.TAdd, a, b), op(99, a, b), api.Term{}) {
		tells(t, "", pos(f))
		tells(t, "", neg(f))
		tells(t, "1 a -1 b <= 0", neg(f), neg(atMost(a, b)), pos(f))
	}
	tells(t, "", pos(same(variable("x", ints), a)))
}

// TestRowsOfSums: sides are sums of names and numbers.
func TestRowsOfSums(t *testing.T) {
	a, b, fa := app("a"), app("b"), app("f", app("a"))
	zero := numeral("0")
	side := func(t api.Term) api.Lit { return neg(atMost(t, zero)) }
	mul := func(n string, t api.Term) api.Term { return op(api.TMul, numeral(n), t) }
	tells(t, "<= -5", side(numeral("5")))
	tells(t, "<= 5", side(numeral("-5")))
	tells(t, "<= 0", side(op(api.TAdd)))
	tells(t, "2 a 1 b <= -3", side(op(api.TAdd, a, b, numeral("3"), a)))
	tells(t, "1 a -1 b <= 0", side(op(api.TSub, a, b)))
	tells(t, "<= 0", side(op(api.TSub, a, a)))
	tells(t, "-1 a <= 0", side(op(api.TNeg, a)))
	tells(t, "3 a <= 0", side(mul("3", a)))
	tells(t, "<= 0", side(mul("0", a)))
	tells(t, "<= -12", side(mul("3", numeral("4"))))
	tells(t, "-6 a 4 b <= -2", side(mul("-2", op(api.TSub, mul("3", a), op(api.TSub, op(api.TAdd, b, b), numeral("-1"))))))
	tells(t, "-2 (f a) 1 a -1 b <= 0", side(op(api.TAdd, op(api.TNeg, mul("2", fa)), op(api.TSub, a, b))))
	tells(t, "1 (f (+ a a)) <= 0", side(app("f", op(api.TAdd, a, a))))
	tells(t, "1 a <= 3", neg(atMost(op(api.TAdd, a, numeral("1")), numeral("4"))))
	tells(t, "1 a -1 b <= 7; -1 a 1 b <= -7", neg(same(op(api.TAdd, a, numeral("1")), op(api.TAdd, b, numeral("8")))))
	// Names are in order of their bytes.
	tells(t, "1 (f a) 1 B 1 a 1 a0 1 aa 1 b <= 0", side(op(api.TAdd, b, app("aa"), app("a0"), a, app("B"), fa)))
	// Those of another shape are names.
	tells(t, "1 (* a b) <= 0", side(op(api.TMul, a, b)))
	tells(t, "1 (* (neg 2) a) <= 0", side(op(api.TMul, op(api.TNeg, numeral("2")), a)))
	tells(t, "1 (* 2) <= 0", side(op(api.TMul, numeral("2"))))
	tells(t, "1 (* 2 a b) <= 0", side(op(api.TMul, numeral("2"), a, b)))
	tells(t, "1 (*) 1 (-) 1 (neg) <= 0", side(op(api.TAdd, op(api.TSub), op(api.TNeg), op(api.TMul))))
	tells(t, "1 (- a b a) 1 (- a) 1 (neg a b) <= 0", side(op(api.TAdd, op(api.TSub, a), op(api.TNeg, a, b), op(api.TSub, a, b, a))))
	tells(t, "2 (- 3) 1 (?) <= 0", side(op(api.TAdd, app("(- 3)"), op(99), op(api.TSub, numeral("3")))))
	// Not ground, wherever.
	x := variable("x", ints)
	forall := all("x", app("p"), app("f", x))
	for _, s := range terms(x, op(api.TAdd, a, x), mul("0", x), app("f", x), ite(forall, a, b), forall, op(api.TSub, x, x), api.Term{Op: api.TTrue, L: terms(x)}) {
		tellsNone(t, side(s))
		tellsNone(t, pos(less(a, s)))
		tellsNone(t, neg(atMost(a, b)), side(s))
	}
	tellsNone(t, neg(same(x, a)))
	tellsNone(t, neg(same(a, x)))
	for _, n := range []string{"", "-", "01", "+1", "-0", "x", "1 "} {
		tellsNone(t, side(numeral(n)))
		tellsNone(t, side(mul(n, a)))
	}
}

// TestRowsAtLimits: names of at most MaxKey bytes, numbers of at most MaxDigits digits.
func TestRowsAtLimits(t *testing.T) {
	a, zero := app("a"), numeral("0")
	side := func(t api.Term) api.Lit { return neg(atMost(t, zero)) }
	mul := func(n string, t api.Term) api.Term { return op(api.TMul, numeral(n), t) }
	long := func(n int) api.Term { return app("f", app(strings.Repeat("n", n))) }
	tells(t, "1 (f "+strings.Repeat("n", 196)+") <= 0", side(long(196)))
	tells(t, "1 "+strings.Repeat("n", 200)+" <= 0", side(app(strings.Repeat("n", 200))))
	for _, s := range terms(long(197), app(strings.Repeat("n", 201)), mul("0", long(197)), op(api.TSub, long(197), long(197)), app("f", op(api.TAdd, many(300, a)...))) {
		tellsNone(t, side(s))
	}
	tellsNone(t, neg(atMost(long(197), long(197))))
	// A Text of 200 bytes by many operands, and one of 202.
	wide := func(n int) api.Term { return app("ff", many(n, a)...) }
	tells(t, "1 (ff"+strings.Repeat(" a", 98)+") <= 0", side(wide(98)))
	tellsNone(t, side(wide(99)))
	tells(t, "1 (ff"+strings.Repeat(" ", 196)+") <= 0", side(app("ff", many(196, app(""))...)))
	tellsNone(t, side(app("ff", many(197, app(""))...)))
	// What isn't written isn't counted.
	tells(t, "1 true <= 0", side(api.Term{Op: api.TTrue, L: many(500, a)}))
	nines, ten := strings.Repeat("9", 400), "1"+strings.Repeat("0", 399)
	tells(t, "<= -"+nines, side(numeral(nines)))
	tells(t, "<= "+nines, side(numeral("-"+nines)))
	tells(t, nines+" a <= 0", side(mul(nines, a)))
	tells(t, "-"+nines+" a <= 0", side(mul("-"+nines, a)))
	for _, n := range []string{nines + "9", "-" + nines + "0", "1" + strings.Repeat("0", 400)} {
		tellsNone(t, side(numeral(n)))
		tellsNone(t, side(mul(n, a)))
		tellsNone(t, side(mul(n, zero)))
		tellsNone(t, side(mul("0", numeral(n))))
		tellsNone(t, side(op(api.TSub, numeral(n), numeral(n))))
	}
	// A row's own numbers, too; those on the way to it don't matter.
	tellsNone(t, side(op(api.TAdd, numeral(nines), numeral("1"))))
	tellsNone(t, neg(less(numeral(nines), zero)), pos(less(numeral(nines), numeral("-1"))))
	tellsNone(t, neg(less(op(api.TNeg, numeral(nines)), numeral("1"))), neg(less(numeral(nines), zero)))
	tellsNone(t, side(op(api.TAdd, mul(nines, a), a)))
	tellsNone(t, side(mul("10", mul(ten, a))))
	tells(t, "<= -"+nines, side(op(api.TAdd, numeral(nines), numeral(nines), op(api.TNeg, numeral(nines)))))
	tells(t, "1 a <= 0", side(op(api.TAdd, mul(nines, a), a, op(api.TNeg, mul(nines, a)))))
	tells(t, "<= 0", side(mul(nines, mul(nines, op(api.TSub, a, a)))))
}

// sided tells a term of sums, some of them of no right shape, some with great numbers, long names, variables.
func sided(r *rand.Rand, deep int) api.Term {
	if deep == 0 || r.Intn(6) == 0 {
		leaves := terms(app("a"), app("b"), app("c"), app("f", app("a")), app("f", op(api.TAdd, app("a"), numeral("1"))), numeral("0"), numeral("1"), numeral("-2"), numeral("77"), ite(app("p"), app("a"), app("b")), op(api.TSub, app("b")), op(api.TMul, app("a"), numeral("2")), app("a"), numeral("3"))
		switch r.Intn(40) {
		case 0:
			return numeral(strings.Repeat("9", 390+r.Intn(12)))
		case 1:
			return app("f", app(strings.Repeat("m", 190+r.Intn(10))))
		case 2:
			return variable("x", ints)
		}
		return leaves[r.Intn(len(leaves))]
	}
	in := func() api.Term { return sided(r, deep-1) }
	switch r.Intn(6) {
	case 0, 1:
		l := terms()
		for range r.Intn(4) {
			l = append(l, in())
		}
		return op(api.TAdd, l...)
	case 2:
		return op(api.TSub, in(), in())
	case 3:
		return op(api.TNeg, in())
	case 4:
		return op(api.TMul, numeral([]string{"0", "1", "-1", "5", "-30", "100000000000000000000"}[r.Intn(6)]), in())
	}
	x := in()
	return op(api.TSub, x, x)
}

// TestRandomRows: rows against the words, read plainly.
func TestRandomRows(t *testing.T) {
	r := rand.New(rand.NewSource(12))
	told := 0
	for range 20000 {
		var c []api.Lit
		for range r.Intn(4) {
			o := []int{api.TLe, api.TLt, api.TEq, api.TEq, api.TIff}[r.Intn(5)]
			c = append(c, api.Lit{Neg: r.Intn(3) > 0, Atom: op(o, sided(r, 4), sided(r, 4))})
		}
		want, ok := plainRows(c)
		got, e := cert.Rows(c)
		if e != ok || rowsText(got) != rowsText(want) {
			t.Fatalf("P12.2: %s: %s, %v, wanted %s, %v", text(c), rowsText(got), e, rowsText(want), ok)
		}
		if ok && len(want) > 1 {
			told++
		}
	}
	if told < 5000 {
		t.Errorf("only %d of several rows", told)
	}
}

// TestRowsHold: nothing is changed, the same is told again, and no two lists of an answer share memory.
func TestRowsHold(t *testing.T) {
	r := rand.New(rand.NewSource(13))
	for range 500 {
		atoms := terms(less(sided(r, 3), sided(r, 3)), same(sided(r, 3), sided(r, 3)))
		given := withSpare(atoms)
		before := whole(given)
		want, ok := cert.Rows(lits(pos(atoms[0]), neg(atoms[1])))
		c := lits(pos(given[0]), neg(given[1]))
		got, e := cert.Rows(c)
		if e != ok || !reflect.DeepEqual(got, want) {
			t.Fatalf("P12.2: %s: %s, then %s", text(c), rowsText(want), rowsText(got))
		}
		if !reflect.DeepEqual(before, whole(given)) {
			t.Fatalf("P12.2: %s was changed", text(c))
		}
		for i := range got {
			for k := range got[i].C[:cap(got[i].C)] {
				got[i].C[:cap(got[i].C)][k] = api.Coef{}
			}
			if !slices.EqualFunc(got[i+1:], want[i+1:], func(a, b api.Lin) bool { return slices.Equal(a.C, b.C) }) {
				t.Fatalf("P12.2: %s: rows share memory", text(c))
			}
		}
	}
}
