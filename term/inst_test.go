package term

import (
	"math/rand"
	"reflect"
	"slices"
	"testing"

	"avow/api"
)

func TestInstOfTerms(t *testing.T) {
	i, o := api.SortInt, api.SortObj
	x, xy := bounds(i, "x"), bounds(i, "x", "y")
	vx, vy, vz := intVar("x"), intVar("y"), intVar("z")
	fx := app("f", vx)
	for n, z := range []struct {
		all  api.Term
		l    []api.Term
		text string
	}{
		{all(x, op(api.TLe, number("0"), fx), fx), []api.Term{number("3")}, "(<= 0 (f 3))"},
		{all(x, vx), []api.Term{app("f", app("a"))}, "(f a)"},
		{all(x, op(api.TAdd, vx, vx, vy)), []api.Term{app("a")}, "(+ a a y)"},
		{all(xy, op(api.TSub, vy, vx)), []api.Term{app("a"), app("b")}, "(- b a)"},
		{all(nil, app("x")), nil, "x"},
		// A function of the name stays, as does what has no name to replace.
		{all(x, app("x", vx)), []api.Term{number("1")}, "(x 1)"},
		// By the name alone, whatever the sort.
		{all(x, sortedVar("x", o)), []api.Term{app("a")}, "a"},
		// Of several variables of one name the first one counts.
		{all(bounds(i, "x", "x"), vx), []api.Term{app("a"), app("b")}, "a"},
		// What is bound within stays, in the body and in patterns; all else is replaced in both.
		{all(x, all(bounds(i, "x", "z"), op(api.TLe, vz, fx), app("f", vz), fx)), []api.Term{number("3")}, "(forall (x int z int) (pattern (f z) (f x)) (<= z (f x)))"},
		{all(x, all(bounds(i, "z"), op(api.TLe, vz, fx), app("f", op(api.TAdd, vz, vx)))), []api.Term{number("3")}, "(forall (z int) (pattern (f (+ z 3))) (<= z (f 3)))"},
		{all(xy, all(bounds(o, "y"), op(api.TAnd, vx, vy), app("k", vx, vy))), []api.Term{app("a"), app("b")}, "(forall (y obj) (pattern (k a y)) (and a y))"},
		{all(x, op(api.TAnd, all(x, fx, fx), fx, all(bounds(i, "y"), all(x, vx, fx, vy), fx), fx)), []api.Term{app("a")}, "(and (forall (x int) (pattern (f x)) (f x)) (f a) (forall (y int) (pattern (f a)) (forall (x int) (pattern (f x) y) x)) (f a))"},
		{all(x, all(x, all(x, vx, vx), vx)), []api.Term{app("a")}, "(forall (x int) (pattern x) (forall (x int) (pattern x) x))"},
		{all(x, all(bounds(i, "y"), app("p"), all(x, vx, fx), all(bounds(i, "z"), vx, fx))), []api.Term{app("a")}, "(forall (y int) (pattern (forall (x int) (pattern (f x)) x) (forall (z int) (pattern (f a)) a)) p)"},
		// l's as they stand: with variables that have a name to replace, or that are bound around the place.
		{all(xy, op(api.TAdd, vx, vy)), []api.Term{vy, vx}, "(+ y x)"},
		{all(x, all(bounds(i, "y"), vx, fx)), []api.Term{app("f", vy)}, "(forall (y int) (pattern (f (f y))) (f y))"},
		{all(x, op(api.TAdd, vx, vx)), []api.Term{all(x, fx, fx)}, "(+ (forall (x int) (pattern (f x)) (f x)) (forall (x int) (pattern (f x)) (f x)))"},
		// Any terms: of operators that are none, with operands where there should be none.
		{all(x, op(99, vx)), []api.Term{{}}, "(? (?))"},
		{all(x, api.Term{Op: api.TVar, Name: "x", L: []api.Term{app("b")}}), []api.Term{app("a")}, "a"},
	} {
		got, e := Inst(z.all, z.l)
		if e != api.OK || Text(got) != z.text {
			t.Errorf("P3.4: %d: %s, %v, wanted %s", n, Text(got), e, z.text)
		}
		// In an answer fields that an operator doesn't name are zero.
		other, e := Inst(garbage(z.all), garbageList(z.l))
		if e != api.OK || !reflect.DeepEqual(got, other) {
			t.Errorf("P3.4: %d: with other fields: %v, wanted %v, %v", n, other, got, e)
		}
	}
	got, _ := Inst(all(x, op(api.TAnd, api.Term{Op: api.TNum, N: "1", L: []api.Term{vx}}, api.Term{Op: api.TVar, Name: "w", Sort: o, L: []api.Term{vx}})), []api.Term{app("a")})
	want := op(api.TAnd, api.Term{Op: api.TNum, N: "1", L: []api.Term{app("a")}}, api.Term{Op: api.TVar, Name: "w", Sort: o, L: []api.Term{app("a")}})
	if !Same(got, want) {
		t.Errorf("P3.4: %v, wanted %v", got, want)
	}
}

func TestInstRefuses(t *testing.T) {
	x := bounds(api.SortInt, "x")
	vx := intVar("x")
	one := []api.Term{number("1")}
	two := api.Term{Op: api.TAll, Vars: x, L: []api.Term{vx, vx}}
	neg := func(so int) api.Term { return chain(api.TNeg, so-1, app("a")) }
	add := func(so int) api.Term { return fan(api.TAdd, so-1, app("a")) }
	for i, z := range []struct {
		all api.Term
		l   []api.Term
		e   api.Errno
	}{
		{op(api.TTrue), nil, form}, {api.Term{}, nil, form}, {op(api.TNot, app("p")), nil, form}, {op(99, vx), nil, form},
		{op(api.TAll), nil, form}, {api.Term{Op: api.TAll, Vars: x}, one, form}, {two, one, form},
		{all(x, vx), nil, form}, {all(x, vx), append(one, one...), form}, {all(nil, vx), one, form}, {all(bounds(api.SortInt, "x", "y"), vx), one, form},
		// As deep as may be, and one more.
		{all(x, vx), []api.Term{neg(api.MaxDepth)}, 0}, {all(x, vx), []api.Term{neg(api.MaxDepth + 1)}, deep},
		{all(x, op(api.TNeg, vx)), []api.Term{neg(api.MaxDepth - 1)}, 0}, {all(x, op(api.TNeg, vx)), []api.Term{neg(api.MaxDepth)}, deep},
		{all(x, neg(api.MaxDepth)), one, 0}, {all(x, neg(api.MaxDepth+1)), one, deep},
		{all(x, all(bounds(api.SortInt, "y"), vx)), []api.Term{neg(api.MaxDepth - 1)}, 0}, {all(x, all(bounds(api.SortInt, "y"), vx)), []api.Term{neg(api.MaxDepth)}, deep},
		// As great as may be, and one more.
		{all(x, vx), []api.Term{add(api.MaxNodes)}, 0}, {all(x, vx), []api.Term{add(api.MaxNodes + 1)}, many},
		{all(x, op(api.TAdd, vx, vx, app("a"))), []api.Term{add(api.MaxNodes/2 - 1)}, 0}, {all(x, op(api.TAdd, vx, vx, app("a"))), []api.Term{add(api.MaxNodes / 2)}, many}, {all(x, op(api.TAdd, vx, vx)), []api.Term{add(api.MaxNodes / 2)}, many},
		{all(x, add(api.MaxNodes)), one, 0}, {all(x, add(api.MaxNodes+1)), one, many},
		// ErrTermForm ahead of ErrTermMany ahead of ErrTermDeep.
		{all(x, add(api.MaxNodes+1)), nil, form}, {all(x, neg(api.MaxDepth+1)), nil, form},
		{all(x, op(api.TAdd, vx, add(api.MaxNodes))), []api.Term{neg(api.MaxDepth + 1)}, many}, {all(x, op(api.TAdd, neg(api.MaxDepth+1), vx)), []api.Term{add(api.MaxNodes)}, many},
		// The answer's size and depth count, not those of what isn't put in, or is replaced.
		{all(x, all(x, vx, vx)), []api.Term{add(api.MaxNodes)}, 0}, {all(x, app("p")), []api.Term{neg(api.MaxDepth + 1)}, 0}, {all(x, all(x, vx, vx)), []api.Term{neg(api.MaxDepth + 1)}, 0},
		{all(x, api.Term{Op: api.TVar, Name: "x", L: []api.Term{add(api.MaxNodes)}}), one, 0},
		{all(x, app("p"), add(api.MaxNodes+1), neg(api.MaxDepth+1)), one, 0}, {all(x, all(bounds(api.SortInt, "y"), app("p"), add(api.MaxNodes+1), neg(api.MaxDepth+1))), one, 0},
	} {
		got, e := Inst(z.all, z.l)
		if e != z.e {
			t.Errorf("P3.4: %d: %v, wanted %v", i, e, z.e)
		}
		if e != api.OK && !reflect.DeepEqual(got, api.Term{}) {
			t.Errorf("P3.4: %d: a term beside an error", i)
		}
	}
}

// slowInst tells the same as Inst, by the words of the promise.
func slowInst(t api.Term, by map[string]api.Term) api.Term {
	if given, ok := by[t.Name]; ok && t.Op == api.TVar {
		return given
	}
	if t.Op == api.TAll {
		less := map[string]api.Term{}
		for name, given := range by {
			if !slices.ContainsFunc(t.Vars, func(v api.Bound) bool { return v.Name == name }) {
				less[name] = given
			}
		}
		by = less
	}
	list := func(l []api.Term) []api.Term {
		var out []api.Term
		for _, x := range l {
			out = append(out, slowInst(x, by))
		}
		return out
	}
	t.L, t.Pat = list(t.L), list(t.Pat)
	return t
}

// P3.5: with ground terms of the right sorts that may stand in patterns, what is made ground is as right as it was.
func TestInstIsAsRight(t *testing.T) {
	m := maker{r: rand.New(rand.NewSource(4))}
	free := 0
	for range 3000 {
		x := m.all(7)
		var l []api.Term
		by := map[string]api.Term{}
		for _, v := range x.Vars {
			given := groundOf(&m, v.Sort)
			l, by[v.Name] = append(l, given), given
		}
		got, e := Inst(x, l)
		if want := slowInst(x.L[0], by); e != api.OK || !Same(got, want) || Text(got) != Text(want) {
			t.Fatalf("P3.4: %s, %v, wanted %s", Text(got), e, Text(want))
		}
		if s, e := Check(sigOf(), got); s != api.SortBool || e != api.OK {
			t.Fatalf("P3.5: %s of %s: %d, %v", Text(got), Text(x), s, e)
		}
		if Ground(got) {
			free++
		}
	}
	if free < 100 || free > 2900 {
		t.Fatalf("the random terms are all of one kind: %d", free)
	}
}

// groundOf tells a ground term of a sort that may stand in patterns.
func groundOf(m *maker, sort int) api.Term {
	switch sort {
	case api.SortInt:
		return []api.Term{number("-3"), app("a"), app("f", op(api.TMul, number("2"), app("b"))), op(api.TAdd, app("a"), op(api.TNeg, app("b")))}[m.r.Intn(4)]
	case api.SortBool:
		return []api.Term{app("p"), app("h", app("a"), app("q"))}[m.r.Intn(2)]
	}
	return []api.Term{app("o"), app("g", app("o"))}[m.r.Intn(2)]
}

// P3.5: what is as deep, or as great, as may be is still taken once it is made ground.
func TestInstIsAsRightAtLimits(t *testing.T) {
	x := bounds(api.SortInt, "x")
	fx := app("f", intVar("x"))
	eq := op(api.TEq, intVar("x"), intVar("x"))
	for i, given := range []api.Term{chain(api.TNeg, api.MaxDepth-2, app("a")), fan(api.TAdd, api.MaxNodes/2-2, app("a")), op(api.TIte, app("p"), app("a"), app("b"))} {
		a := all(x, eq, fx)
		if s, e := Check(sigOf(), a); s != api.SortBool || e != api.OK {
			t.Fatalf("P3.1: %d: %d, %v", i, s, e)
		}
		got, e := Inst(a, []api.Term{given})
		if e != api.OK || !Ground(got) {
			t.Fatalf("P3.4: %d: %v", i, e)
		}
		if s, e := Check(sigOf(), got); s != api.SortBool || e != api.OK {
			t.Errorf("P3.5: %d: %d, %v", i, s, e)
		}
	}
}
