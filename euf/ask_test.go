package euf

import (
	"reflect"
	"slices"
	"strconv"
	"testing"

	"avow/api"
)

func TestP8_2PopWithoutPush(t *testing.T) {
	a, b := app("a"), app("b")
	e := New()
	if e.Pop() {
		t.Error("P8.2: there was no Push")
	}
	e.Assert(is(same(a, b)))
	if e.Pop() || !e.Equal(a, b) {
		t.Error("P8.2: there was no Push")
	}
	e.Push()
	e.Push()
	if !e.Pop() || !e.Pop() || e.Pop() || !e.Equal(a, b) {
		t.Error("P8.2: there were two")
	}
	if why, ok := e.Explain(a, b); !ok || !slices.Equal(why, []int{0}) {
		t.Errorf("P8.2: %v", why)
	}
}

func TestP8_2Nested(t *testing.T) {
	a, b, c, d := app("a"), app("b"), app("c"), app("d")
	e, _ := told(t, is(same(a, b)))
	e.Push()
	e.Assert(is(same(b, c)))
	e.Push()
	e.Push()
	e.Assert(is(same(c, d)))
	if can, _ := e.Assert(isnt(same(app("f", a), app("f", d)))); can {
		t.Error("P8.1: f a isn't f d")
	}
	if why, ok := e.Explain(a, d); !ok || !slices.Equal(why, []int{0, 1, 2}) || !slices.Equal(e.Conflict(), []int{0, 1, 2, 3}) {
		t.Errorf("P8.3: %v, %v", why, e.Conflict())
	}
	if !e.Pop() || e.Equal(a, d) || e.Equal(c, d) || !e.Equal(a, c) || len(e.Conflict()) != 0 {
		t.Error("P8.2: the innermost")
	}
	if can, err := e.Assert(isnt(same(a, c))); can || err != api.OK || !slices.Equal(e.Conflict(), []int{0, 1, 2}) {
		t.Errorf("P8.2: a number that was taken back isn't the next one: %v", e.Conflict())
	}
	if !e.Pop() || !e.Equal(a, c) || len(e.Conflict()) != 0 {
		t.Error("P8.2: the middle one")
	}
	if !e.Pop() || e.Equal(a, c) || !e.Equal(a, b) || e.Pop() {
		t.Error("P8.2: the outermost")
	}
	if can, _ := e.Assert(isnt(same(a, c))); !can {
		t.Error("P8.2: a = c was taken back")
	}
}

// TestP8_2AConflictAheadStays: what Pop takes back is no part of a conflict ahead of Push.
func TestP8_2AConflictAheadStays(t *testing.T) {
	a, b := app("a"), app("b")
	e, _ := told(t, is(same(a, b)), isnt(same(b, a)))
	e.Push()
	e.Assert(is(no()))
	if !e.Pop() || !slices.Equal(e.Conflict(), []int{0, 1}) {
		t.Errorf("P8.2: %v", e.Conflict())
	}
	if can, err := e.Assert(is(app("p"))); can || err != api.OK {
		t.Errorf("P8.1: %v, %v", can, err)
	}
}

// TestP8_2NumbersLeaveTheirClasses: a number that was taken back out of a class isn't in it any more.
func TestP8_2NumbersLeaveTheirClasses(t *testing.T) {
	a, b := app("a"), app("b")
	for _, x := range []api.Term{a, b, app("f", a)} {
		for _, l := range [][]api.Lit{nil, {is(same(a, b))}, {is(same(numeral("7"), app("c")))}} {
			e, _ := told(t, l...)
			for i := range 5 {
				e.Push()
				if can, _ := e.Assert(is(same(numeral(strconv.Itoa(i)), x))); !can {
					t.Fatalf("P8.2: %s: %d", words(l...), i)
				}
				if can, _ := e.Assert(is(same(x, numeral(strconv.Itoa(i+1))))); can {
					t.Fatalf("P8.1: %s: %d and the next", words(l...), i)
				}
				e.Pop()
			}
		}
	}
}

// TestP8_2NothingStays: what was taken back leaves nothing behind.
func TestP8_2NothingStays(t *testing.T) {
	a, b := app("a"), app("b")
	e, _ := told(t, is(same(app("f", a), b)), isnt(same(a, b)))
	nodes, texts, signatures, aparts := len(e.closure.nodes), len(e.closure.numbers), len(e.closure.signatures), len(e.closure.aparts)
	for range 3 {
		e.Push()
		e.Assert(is(same(app("g", a, b), numeral("7"))))
		e.Assert(isnt(app("p", b)))
		e.Assert(is(same(a, app("c"))))
		e.Assert(isnt(same(a, app("d"))))
		e.Equal(app("k", a), app("m", app("c")))
		e.Explain(app("g", app("c"), b), numeral("7"))
		e.Pop()
		e.Equal(app("k", a), app("m", app("c")))
		e.Explain(app("f", a), app("f", app("n")))
		if len(e.closure.nodes) != nodes || len(e.closure.numbers) != texts || len(e.closure.signatures) != signatures || len(e.closure.aparts) != aparts || len(e.closure.merges) != 1 || len(e.closure.signed) != signatures || len(e.marks) != 0 {
			t.Fatal("P8.2: something stays")
		}
	}
}

// TestP8_2ManyPushes: Pushes with nothing between them are so many all the same.
func TestP8_2ManyPushes(t *testing.T) {
	a, b := app("a"), app("b")
	e := New()
	for range 1000 {
		e.Push()
	}
	e.Assert(is(same(a, b)))
	for i := range 1000 {
		if !e.Pop() || e.Equal(a, b) {
			t.Fatalf("P8.2: %d", i)
		}
	}
	if e.Pop() {
		t.Error("P8.2: one more")
	}
}

func TestP8_3TermsThatWereNeverAsserted(t *testing.T) {
	a, b, c := app("a"), app("b"), app("c")
	g := func(x, y api.Term) api.Term { return app("g", x, y) }
	l := []api.Lit{is(same(a, b)), isnt(same(b, c)), is(same(g(a, c), c)), is(app("p", a)), isnt(app("q", b))}
	e, _ := told(t, l...)
	for _, z := range []struct {
		x, y  api.Term
		equal bool
		why   []int
	}{
		{a, a, true, nil}, {app("new"), app("new"), true, nil}, {app("new"), app("other"), false, nil}, {app("f", a), app("f", a), true, nil}, {app("f", a), app("f", b), true, []int{0}}, {app("f", a), app("f", c), false, nil}, {app("f", b), app("h", b), false, nil},
		{app("f", app("k", a, app("new"))), app("f", app("k", b, app("new"))), true, []int{0}}, {app("k", a, app("new")), app("k", b, app("other")), false, nil}, {g(b, c), c, true, []int{0, 2}}, {g(b, g(a, g(b, c))), c, true, []int{0, 2}}, {g(a, g(a, c)), c, true, []int{2}}, {g(c, b), c, false, nil},
		{app("p", b), yes(), true, []int{0, 3}}, {app("p", a), op(api.TFalse), false, nil}, {app("q", a), no(), true, []int{0, 4}}, {app("p", a), app("q", a), false, nil}, {yes(), no(), false, nil}, {numeral("1"), numeral("2"), false, nil}, {numeral("1"), numeral("1"), true, nil}, {op(api.TAdd, a, b), op(api.TAdd, b, a), true, []int{0}}, {op(api.TAdd, a, c), op(api.TAdd, c, a), false, nil},
		{same(a, c), same(b, c), true, []int{0}}, {same(a, b), yes(), false, nil}, {same(b, c), no(), false, nil}, {op(api.TNot, app("p", a)), no(), false, nil}, {op(api.TNot, app("p", b)), op(api.TNot, yes()), true, []int{0, 3}},
	} {
		for _, x := range [][2]api.Term{{z.x, z.y}, {z.y, z.x}} {
			if why, ok := e.Explain(x[0], x[1]); e.Equal(x[0], x[1]) != z.equal || ok != z.equal || !slices.Equal(why, z.why) {
				t.Errorf("P8.3: %s: %v, %v", words(is(same(x[0], x[1]))), why, ok)
			}
			checkPair(t, e, l, x[0], x[1])
		}
	}
}

func TestP8_3TermsThatAreNotGround(t *testing.T) {
	a := app("a")
	e, _ := told(t, is(same(a, app("b"))))
	for _, x := range []api.Term{variable("x"), all(yes()), app("f", variable("x")), op(api.TNot, all(app("p"))), app("f", a, app("g", a, variable("y")))} {
		for _, y := range []api.Term{x, a, yes(), variable("x")} {
			for _, z := range [][2]api.Term{{x, y}, {y, x}} {
				if why, ok := e.Explain(z[0], z[1]); ok || len(why) != 0 || e.Equal(z[0], z[1]) {
					t.Errorf("P8.3: %s", words(is(same(z[0], z[1]))))
				}
			}
		}
	}
}

// TestP8_3SeveralReasons: where there are several reasons, those told are enough, and a conflict has none that are asserted behind it.
func TestP8_3SeveralReasons(t *testing.T) {
	a, b, c := app("a"), app("b"), app("c")
	l := []api.Lit{is(same(a, b)), is(same(a, b)), is(same(b, c)), is(same(a, c)), is(same(a, a)), isnt(same(a, app("d")))}
	e, _ := told(t, l...)
	for _, x := range [][2]api.Term{{a, b}, {b, c}, {a, c}, {c, c}, {app("f", a, b), app("f", c, a)}} {
		if !checkPair(t, e, l, x[0], x[1]) {
			t.Errorf("P8.3: %s", words(is(same(x[0], x[1]))))
		}
	}
	e, _ = told(t, is(same(a, b)), is(same(a, c)), isnt(same(b, c)), isnt(same(a, b)), isnt(same(a, c)))
	checkConflict(t, e, []api.Lit{is(same(a, b)), is(same(a, c)), isnt(same(b, c))}, false)
}

// TestP8_3Great: Equal and Explain take terms of any size; nothing is gone through again and again.
func TestP8_3Great(t *testing.T) {
	a, b := app("a"), app("b")
	e, _ := told(t, isnt(app("p")), is(same(a, b)))
	for what, of := range map[string]func(x api.Term) api.Term{
		"deep": func(x api.Term) api.Term { return chain("f", 10000, x) }, "greater than what is asserted": func(x api.Term) api.Term { return chain("f", api.MaxNodes+1, x) }, "shared": func(x api.Term) api.Term { return doubled("f", 5000, x) },
		"wide": func(x api.Term) api.Term { return op(api.TAdd, append(wide(api.TAdd, 2*api.MaxNodes).L, x)...) },
	} {
		if why, ok := e.Explain(of(a), of(b)); !ok || !slices.Equal(why, []int{1}) || !e.Equal(of(b), of(a)) {
			t.Errorf("P8.3: %s: %v, %v", what, why, ok)
		}
		if why, ok := e.Explain(of(a), of(app("c"))); ok || len(why) != 0 || e.Equal(of(a), of(app("c"))) {
			t.Errorf("P8.3: %s: %v, %v", what, why, ok)
		}
	}
}

// TestP8_3LongWays: explanations of many assertions and many steps.
func TestP8_3LongWays(t *testing.T) {
	const n = 20000
	x := func(i int) api.Term { return app("x" + strconv.Itoa(i)) }
	e := New()
	for i := range n {
		if can, err := e.Assert(is(same(x(i), x(i+1)))); !can || err != api.OK {
			t.Fatal("P8.1")
		}
	}
	one, other := wide(api.TAdd, n), wide(api.TAdd, n)
	slices.Reverse(other.L)
	if why, ok := e.Explain(one, other); !ok || len(why) != n-2 || !inOrder(why, n-2) {
		t.Errorf("P8.3: %d, %v", len(why), ok)
	}
	if can, _ := e.Assert(isnt(same(x(n), x(0)))); can || len(e.Conflict()) != n+1 || !inOrder(e.Conflict(), n+1) {
		t.Errorf("P8.3: conflict of %d", len(e.Conflict()))
	}
}

// TestP8_3StepsAmongSteps: each level of terms is equal by the one below it, twice over; what was told once isn't told again.
func TestP8_3StepsAmongSteps(t *testing.T) {
	const n = 300
	e := New()
	x, y := func(i int) api.Term { return app("x" + strconv.Itoa(i)) }, func(i int) api.Term { return app("y" + strconv.Itoa(i)) }
	for i := range n {
		e.Assert(is(same(x(i+1), app("f", x(i), x(i)))))
		e.Assert(is(same(y(i+1), app("f", y(i), y(i)))))
	}
	if e.Equal(x(n), y(n)) {
		t.Error("P8.3: as yet they aren't")
	}
	e.Assert(is(same(x(0), y(0))))
	if why, ok := e.Explain(x(n), y(n)); !ok || len(why) != 2*n+1 || !inOrder(why, 2*n+1) {
		t.Errorf("P8.3: %d, %v", len(why), ok)
	}
}

// TestEnds: calls end, of lists that contain themselves, and of terms deeper than anything is promised of.
func TestEnds(t *testing.T) {
	a := app("a")
	for _, x := range []api.Term{endless("f", 1), endless("f", 2), endless("f", 50), app("f", a, endless("g", 3)), chain("f", 200000, a), doubled("f", 200000, a), chain("f", 1<<16, a), chain("f", 1<<16+1, a)} {
		e, _ := told(t, is(same(a, app("b"))))
		for _, y := range []api.Term{x, a} {
			e.Equal(x, y)
			e.Explain(y, app("f", x))
			Valid([]api.Lit{is(same(x, y)), isnt(x)})
		}
		if _, err := e.Assert(is(x)); err != api.ErrEuf {
			t.Errorf("P8.1: %v", err)
		}
		if !e.Equal(a, app("b")) || len(e.closure.nodes) > 20 {
			t.Error("P8.3: it changed something")
		}
	}
}

// garbage tells t with something in each field that its operator doesn't name, and spare room behind its lists.
func garbage(t api.Term) api.Term {
	out := api.Term{Op: t.Op, Name: "junk", Sort: 77, N: "junk", Vars: []api.Bound{{Name: "junk", Sort: 5}}, Pat: []api.Term{all(variable("junk"))}}
	switch t.Op {
	case api.TNum:
		out.N = t.N
	case api.TApp:
		out.Name = t.Name
	}
	out.L = make([]api.Term, 0, len(t.L)+1)
	for _, x := range t.L {
		out.L = append(out.L, garbage(x))
	}
	out.L = append(out.L, all(variable("spare")))[:len(t.L)]
	return out
}

// whole tells t with all its fields and the spare room behind its lists, in memory of its own.
func whole(t api.Term) api.Term {
	l := t.L[:cap(t.L)]
	t.L, t.Pat, t.Vars = nil, slices.Clone(t.Pat), slices.Clone(t.Vars)
	for _, x := range l {
		t.L = append(t.L, whole(x))
	}
	return t
}

// scribble overwrites all that hangs on t.
func scribble(t *api.Term) {
	l := t.L[:cap(t.L)]
	for i := range l {
		scribble(&l[i])
	}
	*t = api.Term{Op: api.TVar, Name: "scribbled"}
}

// TestFieldsThatSayNothing: fields that an operator doesn't name say nothing.
func TestFieldsThatSayNothing(t *testing.T) {
	e := New()
	for _, x := range []api.Term{app("f", numeral("1"), yes(), op(api.TAdd, no(), app("a"))), same(app("a"), op(api.TIte)), op(99, numeral("1", app("a")))} {
		if why, ok := e.Explain(x, garbage(x)); !ok || len(why) != 0 || !Valid([]api.Lit{is(x), isnt(garbage(x))}) {
			t.Errorf("P8.3: %s", words(is(x)))
		}
	}
}

func TestArgumentsStay(t *testing.T) {
	a, b, c := app("a"), app("b"), app("c")
	e := New()
	lits := []api.Lit{is(same(app("f", a, numeral("1")), b)), isnt(same(b, c)), is(app("p", a)), isnt(app("p", c)), is(op(api.TEq, a))}
	for i := range lits {
		lits[i].Atom = garbage(lits[i].Atom)
		before := whole(lits[i].Atom)
		e.Assert(lits[i])
		if !reflect.DeepEqual(whole(lits[i].Atom), before) {
			t.Errorf("P8.1: %d was changed", i)
		}
	}
	x, y := garbage(app("g", app("f", a, numeral("1")))), garbage(app("g", b))
	beforeX, beforeY := whole(x), whole(y)
	if why, ok := e.Explain(x, y); !ok || !slices.Equal(why, []int{0}) || !e.Equal(x, y) {
		t.Errorf("P8.3: %v", why)
	}
	if !reflect.DeepEqual(whole(x), beforeX) || !reflect.DeepEqual(whole(y), beforeY) {
		t.Error("P8.3: a term was changed")
	}
	clause := append(slices.Clone(lits), is(variable("spare")))[:len(lits)]
	before := []api.Term{}
	for _, l := range clause {
		before = append(before, whole(l.Atom))
	}
	Valid(clause)
	for i, l := range clause {
		if !reflect.DeepEqual(whole(l.Atom), before[i]) || l.Neg != lits[i].Neg {
			t.Errorf("P8.4: %d was changed", i)
		}
	}
	if !reflect.DeepEqual(clause[:len(lits)+1][len(lits)], is(variable("spare"))) {
		t.Error("P8.4: the spare room was changed")
	}
	for i := range lits {
		scribble(&lits[i].Atom)
	}
	if !e.Equal(app("f", a, numeral("1")), b) || !e.Equal(app("p", a), yes()) || !e.Equal(app("p", c), no()) {
		t.Error("P8.1: what was handed in is kept")
	}
	if can, _ := e.Assert(is(same(c, b))); can || !slices.Equal(e.Conflict(), []int{1, 4}) {
		t.Errorf("P8.1: what was handed in is kept: %v", e.Conflict())
	}
}

// TestAnswersAreNew: what is answered is the caller's to overwrite.
func TestAnswersAreNew(t *testing.T) {
	a, b, c := app("a"), app("b"), app("c")
	e, _ := told(t, is(same(a, b)), is(same(b, c)), isnt(same(a, c)))
	for range 3 {
		why, _ := e.Explain(a, c)
		conflict := e.Conflict()
		if !slices.Equal(why, []int{0, 1}) || !slices.Equal(conflict, []int{0, 1, 2}) {
			t.Fatalf("P8.3: %v, %v", why, conflict)
		}
		for _, l := range [][]int{why[:cap(why)], conflict[:cap(conflict)]} {
			for i := range l {
				l[i] = 1000 + i
			}
		}
	}
}
