package term

import (
	"fmt"
	"math/rand"
	"reflect"
	"slices"
	"testing"

	"avow/api"
)

func number(n string) api.Term { return api.Term{Op: api.TNum, N: n} }

func op(o int, l ...api.Term) api.Term { return api.Term{Op: o, L: l} }

func app(name string, l ...api.Term) api.Term { return api.Term{Op: api.TApp, Name: name, L: l} }

func intVar(name string) api.Term { return sortedVar(name, api.SortInt) }

func sortedVar(name string, sort int) api.Term {
	return api.Term{Op: api.TVar, Name: name, Sort: sort}
}

func bounds(sort int, names ...string) []api.Bound {
	var out []api.Bound
	for _, name := range names {
		out = append(out, api.Bound{Name: name, Sort: sort})
	}
	return out
}

func all(vars []api.Bound, body api.Term, pat ...api.Term) api.Term {
	return api.Term{Op: api.TAll, Vars: vars, Pat: pat, L: []api.Term{body}}
}

// chain tells last under so many operators.
func chain(o, so int, last api.Term) api.Term {
	for range so {
		last = op(o, last)
	}
	return last
}

// fan tells an operator with so many operands.
func fan(o, so int, each api.Term) api.Term {
	l := make([]api.Term, so)
	for i := range l {
		l[i] = each
	}
	return op(o, l...)
}

// doubled tells a term so often joined with itself: small to hold, great to go through.
func doubled(o, so int, t api.Term) api.Term {
	for range so {
		t = op(o, t, t)
	}
	return t
}

// endless tells a term whose operands, so many of them, are a list that contains itself in each of them.
func endless(o, so int) api.Term {
	l := make([]api.Term, so)
	for i := range l {
		l[i] = api.Term{Op: o, Name: "f", L: l, Pat: l, Vars: bounds(api.SortInt, "x")}
	}
	return l[0]
}

func sigOf() []api.Fun {
	i, b, o := api.SortInt, api.SortBool, api.SortObj
	return []api.Fun{
		{Name: "a", Out: i}, {Name: "b", Out: i}, {Name: "p", Out: b}, {Name: "q", Out: b}, {Name: "o", Out: o},
		{Name: "f", Args: []int{i}, Out: i}, {Name: "g", Args: []int{o}, Out: o}, {Name: "h", Args: []int{i, b}, Out: b}, {Name: "k", Args: []int{i, o}, Out: i}, {Name: "r", Args: []int{b}, Out: i},
	}
}

// garbage tells t with something in each field that its operator doesn't name, and spare room behind its lists.
func garbage(t api.Term) api.Term {
	out := api.Term{Op: t.Op, Name: "junk", Sort: 77, N: "junk", Vars: bounds(5, "junk"), Pat: []api.Term{op(99)}}
	switch t.Op {
	case api.TNum:
		out.N = t.N
	case api.TApp:
		out.Name = t.Name
	case api.TVar:
		out.Name, out.Sort = t.Name, t.Sort
	case api.TAll:
		out.Vars = append(slices.Clone(t.Vars), api.Bound{Name: "spare"})[:len(t.Vars)]
		out.Pat = garbageList(t.Pat)
	}
	out.L = garbageList(t.L)
	return out
}

func garbageList(l []api.Term) []api.Term {
	out := make([]api.Term, 0, len(l)+1)
	for _, t := range l {
		out = append(out, garbage(t))
	}
	return append(out, app("spare"))[:len(l)]
}

// whole tells t with all its fields and the spare room behind its lists, in memory of its own.
func whole(t api.Term) api.Term {
	t.L, t.Pat, t.Vars = wholeList(t.L), wholeList(t.Pat), slices.Clone(t.Vars[:cap(t.Vars)])
	return t
}

func wholeList(l []api.Term) []api.Term {
	var out []api.Term
	for _, t := range l[:cap(l)] {
		out = append(out, whole(t))
	}
	return out
}

// scribble overwrites all of l and what hangs on it, the spare room too, and tells the first of two lists that share memory.
func scribble(t *testing.T, l []api.Term, seen map[any]bool) {
	t.Helper()
	l = l[:cap(l)]
	for i := range l {
		if seen[&l[i]] {
			t.Fatal("two lists of an answer share memory")
		}
		seen[&l[i]] = true
		vars := l[i].Vars[:cap(l[i].Vars)]
		for j := range vars {
			if seen[&vars[j]] {
				t.Fatal("two lists of variables of an answer share memory")
			}
			seen[&vars[j]] = true
			vars[j] = api.Bound{Name: "scribble", Sort: -1}
		}
		scribble(t, l[i].L, seen)
		scribble(t, l[i].Pat, seen)
		l[i].Op, l[i].Name = -1, "scribble"
	}
}

// maker makes terms that Check takes with sigOf, under the variables that it has bound.
type maker struct {
	r     *rand.Rand
	bound []api.Bound
}

func (m *maker) of(sort, deep int) api.Term {
	if deep <= 0 || m.r.Intn(6) == 0 {
		return m.leaf(sort)
	}
	in := func(sort int) api.Term { return m.of(sort, deep-1) }
	i, b, o := api.SortInt, api.SortBool, api.SortObj
	if m.r.Intn(8) == 0 {
		return op(api.TIte, in(b), in(sort), in(sort))
	}
	switch sort {
	case i:
		return []func() api.Term{
			func() api.Term { return op(api.TAdd, m.several(i, deep)...) },
			func() api.Term { return op(api.TSub, in(i), in(i)) },
			func() api.Term { return op(api.TNeg, in(i)) },
			func() api.Term { return op(api.TMul, number("-12"), in(i)) },
			func() api.Term { return app("f", in(i)) },
			func() api.Term { return app("k", in(i), in(o)) },
			func() api.Term { return app("r", in(b)) },
		}[m.r.Intn(7)]()
	case o:
		return app("g", in(o))
	}
	return []func() api.Term{
		func() api.Term { return op(api.TNot, in(b)) },
		func() api.Term { return op(api.TAnd, m.several(b, deep)...) },
		func() api.Term { return op(api.TOr, m.several(b, deep)...) },
		func() api.Term { return op(api.TImp, in(b), in(b)) },
		func() api.Term { return op(api.TIff, in(b), in(b)) },
		func() api.Term { s := 1 + m.r.Intn(3); return op(api.TEq, in(s), in(s)) },
		func() api.Term { return op(api.TLe, in(i), in(i)) },
		func() api.Term { return op(api.TLt, in(i), in(i)) },
		func() api.Term { return app("h", in(i), in(b)) },
		func() api.Term { return m.all(deep) },
	}[m.r.Intn(10)]()
}

func (m *maker) several(sort, deep int) []api.Term {
	out := make([]api.Term, m.r.Intn(4))
	for i := range out {
		out[i] = m.of(sort, deep-1)
	}
	return out
}

func (m *maker) leaf(sort int) api.Term {
	if len(m.bound) > 0 && m.r.Intn(2) == 0 {
		v := m.bound[m.r.Intn(len(m.bound))]
		if v.Sort == sort && m.innermost(v) {
			return sortedVar(v.Name, v.Sort)
		}
	}
	switch sort {
	case api.SortInt:
		return []api.Term{app("a"), app("b"), number("0"), number("-7"), number("123456789012345678901234567890")}[m.r.Intn(5)]
	case api.SortBool:
		return []api.Term{app("p"), app("q"), op(api.TTrue), op(api.TFalse)}[m.r.Intn(4)]
	}
	return app("o")
}

// innermost tells whether no other variable is bound within v that has its name.
func (m *maker) innermost(v api.Bound) bool {
	for _, w := range slices.Backward(m.bound) {
		if w.Name == v.Name {
			return w == v
		}
	}
	return false
}

// all tells a TAll with variables of any names, those that are bound around it too; its pattern names, beside its own, numbers and objects that are bound around it.
func (m *maker) all(deep int) api.Term {
	var vars []api.Bound
	for _, i := range m.r.Perm(4)[:1+m.r.Intn(2)] {
		vars = append(vars, api.Bound{Name: string(rune('w' + i)), Sort: 1 + m.r.Intn(3)})
	}
	outer := len(m.bound)
	m.bound = append(m.bound, vars...)
	body := m.of(api.SortBool, deep-1)
	var pat []api.Term
	for _, v := range m.bound {
		if !m.innermost(v) {
			continue
		}
		x := sortedVar(v.Name, v.Sort)
		switch v.Sort {
		case api.SortInt:
			pat = append(pat, app("f", op(api.TAdd, x, number("1"))))
		case api.SortBool:
			pat = append(pat, app("r", x))
		case api.SortObj:
			pat = append(pat, app("g", x))
		}
	}
	m.bound = m.bound[:outer]
	return all(vars, body, pat...)
}

func TestRandomTermsAreRight(t *testing.T) {
	m := maker{r: rand.New(rand.NewSource(1))}
	for range 3000 {
		sort := 1 + m.r.Intn(3)
		x := m.of(sort, 6)
		got, e := Check(sigOf(), x)
		if got != sort || e != api.OK {
			t.Fatalf("P3.1: Check of %s: %d, %v, wanted %d", Text(x), got, e, sort)
		}
		if Size(x) != slowSize(x) || Depth(x) != slowDepth(x) || Ground(x) != slowGround(x) {
			t.Fatalf("P3.2: of %s: size %d, depth %d, ground %v", Text(x), Size(x), Depth(x), Ground(x))
		}
	}
}

func slowSize(t api.Term) int {
	out := 1
	for _, x := range t.L {
		out += slowSize(x)
	}
	return out
}

func slowDepth(t api.Term) int {
	out := 0
	for _, x := range t.L {
		out = max(out, slowDepth(x))
	}
	return out + 1
}

func slowGround(t api.Term) bool {
	for _, x := range t.L {
		if !slowGround(x) {
			return false
		}
	}
	return t.Op != api.TVar && t.Op != api.TAll
}

func TestMeasures(t *testing.T) {
	fx := app("f", intVar("x"))
	for _, z := range []struct {
		t           api.Term
		size, depth int
		ground      bool
	}{
		{api.Term{}, 1, 1, true},
		{number("5"), 1, 1, true},
		{op(api.TTrue), 1, 1, true},
		{op(api.TAnd), 1, 1, true},
		{intVar("x"), 1, 1, false},
		{fx, 2, 2, false},
		{app("k", app("f", app("a")), app("o")), 4, 3, true},
		{app("k", app("o"), app("f", app("a"))), 4, 3, true},
		{op(99, app("a"), number("1")), 3, 2, true},
		{number("1"), 1, 1, true},
		{api.Term{Op: api.TNum, N: "x", L: []api.Term{fx}}, 3, 3, false},
		{api.Term{Op: api.TVar, L: []api.Term{app("a")}}, 2, 2, false},
		{op(api.TAnd, app("p"), intVar("x"), app("q")), 4, 2, false},
		{all(nil, app("p")), 2, 2, false},
		{op(api.TNot, all(bounds(api.SortInt, "x"), op(api.TLe, number("0"), fx), fx)), 6, 5, false},
		// What stands in patterns counts nowhere, nor what stands in fields that aren't named.
		{all(bounds(api.SortInt, "x"), app("p"), chain(api.TNeg, 300, fx), fan(api.TAdd, 60000, fx)), 2, 2, false},
		{api.Term{Op: api.TApp, Name: "a", Sort: 3, N: "7", Vars: bounds(1, "x"), Pat: []api.Term{fx, fx}}, 1, 1, true},
		{fan(api.TAdd, 100000, app("f", app("a"))), 200001, 3, true},
		{chain(api.TNeg, 9999, app("a")), 10000, 10000, true},
		{chain(api.TNeg, 9999, intVar("a")), 10000, 10000, false},
	} {
		if Size(z.t) != z.size || Depth(z.t) != z.depth || Ground(z.t) != z.ground {
			t.Errorf("P3.2: of %.80s: size %d, depth %d, ground %v, wanted %d, %d, %v", Text(z.t), Size(z.t), Depth(z.t), Ground(z.t), z.size, z.depth, z.ground)
		}
	}
}

// Terms that share lists are small to hold, and great to go through: all calls must end of them.
func TestSharedLists(t *testing.T) {
	x := doubled(api.TAnd, 40, app("p"))
	if Size(x) != 1<<41-1 || Depth(x) != 41 || !Ground(x) {
		t.Errorf("P3.2: size %d, depth %d, ground %v", Size(x), Depth(x), Ground(x))
	}
	if Ground(doubled(api.TAnd, 150, intVar("x"))) {
		t.Error("P3.2: a term with a variable is ground")
	}
	if !Same(x, doubled(api.TAnd, 40, app("p"))) || Same(x, doubled(api.TAnd, 40, app("q"))) || Same(x, doubled(api.TAnd, 41, app("p"))) {
		t.Error("P3.2: Same of terms that share lists")
	}
	if s, e := Check(sigOf(), doubled(api.TAnd, api.MaxDepth-1, app("p"))); s != 0 || e != api.ErrTermMany {
		t.Errorf("P3.1: %d, %v, wanted ErrTermMany", s, e)
	}
	if s, e := Check(sigOf(), doubled(api.TAnd, api.MaxDepth, app("p"))); s != 0 || e != api.ErrTermDeep {
		t.Errorf("P3.1: %d, %v, wanted ErrTermDeep", s, e)
	}
	if got := Apps(doubled(api.TAnd, 150, app("p"))); len(got) != 1 || Text(got[0]) != "p" {
		t.Errorf("P3.4: Apps tells %d", len(got))
	}
	deep := all(bounds(api.SortBool, "x"), doubled(api.TAnd, 150, sortedVar("x", api.SortBool)), app("r", sortedVar("x", api.SortBool)))
	if got, e := Inst(deep, []api.Term{app("p")}); e != api.ErrTermMany || !reflect.DeepEqual(got, api.Term{}) {
		t.Errorf("P3.4: Inst: %v, wanted ErrTermMany", e)
	}
	if _, e := Inst(all(bounds(api.SortBool, "x"), sortedVar("x", api.SortBool)), []api.Term{doubled(api.TAnd, 150, app("p"))}); e != api.ErrTermMany {
		t.Errorf("P3.4: Inst: %v, wanted ErrTermMany", e)
	}
	pat := all(bounds(api.SortBool, "x"), app("p"), app("r", doubled(api.TAnd, 150, sortedVar("x", api.SortBool))))
	if s, e := Check(sigOf(), pat); s != 0 || e != api.ErrTermMany {
		t.Errorf("P3.1: %d, %v, wanted ErrTermMany of a pattern", s, e)
	}
}

// Of what goes deeper than 10000, and of lists that contain themselves, calls must end, and not panic.
func TestEnds(t *testing.T) {
	terms := []api.Term{
		chain(api.TNeg, 20000, app("a")), chain(api.TAll, 70000, app("a")), chain(api.TNot, 1000000, intVar("x")),
		endless(api.TNot, 1), endless(api.TAnd, 2), endless(api.TApp, 3), endless(api.TAll, 2), endless(api.TVar, 2), endless(0, 2), endless(api.TAnd, 100000),
	}
	f := app("a")
	for range 20000 {
		f = app("f", f)
	}
	pats := app("a")
	for range 200000 {
		pats = all(bounds(api.SortInt, "x"), app("p"), pats)
	}
	for i, x := range append(terms, f, pats) {
		Size(x)
		Depth(x)
		Ground(x)
		Apps(x)
		Text(x)
		Same(x, x)
		Same(x, op(x.Op, x.L...))
		Same(x, apart(x))
		if s, e := Check(sigOf(), x); e == api.OK || s != 0 {
			t.Errorf("P3.1: %d: %d, %v, wanted an error", i, s, e)
		}
		Check(sigOf(), all(bounds(api.SortInt, "x"), app("p"), x))
		Inst(x, []api.Term{x})
		Inst(x, []api.Term{app("a")})
		Inst(all(bounds(api.SortInt, "x"), op(api.TLe, intVar("x"), intVar("x"))), []api.Term{x})
		Inst(all(bounds(api.SortInt, "y"), x), []api.Term{number("1")})
		Inst(all(bounds(api.SortInt, "y"), all(bounds(api.SortInt, "x"), app("p"), x)), []api.Term{number("1")})
	}
}

// apart tells t with operands in a list of their own.
func apart(t api.Term) api.Term {
	t.L = slices.Clone(t.L)
	return t
}

// A nil list and an empty one are the same.
func TestNilLists(t *testing.T) {
	none := api.Term{Op: api.TApp, Name: "a", L: []api.Term{}, Vars: []api.Bound{}, Pat: []api.Term{}}
	sig := []api.Fun{{Name: "a", Args: []int{}, Out: api.SortInt}}
	if s, e := Check(sig, none); s != api.SortInt || e != api.OK {
		t.Errorf("P3.1: %d, %v", s, e)
	}
	if !Same(none, app("a")) || !Same(app("a"), none) || Text(none) != "a" || !Ground(none) || Size(none) != 1 {
		t.Error("P3.2: an empty list isn't as a nil one")
	}
	empty := api.Term{Op: api.TAll, Vars: []api.Bound{}, Pat: []api.Term{}, L: []api.Term{none}}
	if !Same(empty, all(nil, app("a"))) || Text(empty) != Text(all(nil, app("a"))) {
		t.Error("P3.2: an empty list isn't as a nil one")
	}
	for _, l := range [][]api.Term{nil, {}} {
		if got, e := Inst(empty, l); e != api.OK || Text(got) != "a" {
			t.Errorf("P3.4: %s, %v", Text(got), e)
		}
	}
}

// What is handed in is neither changed nor kept, the spare room behind lists included.
func TestArgumentsStay(t *testing.T) {
	m := maker{r: rand.New(rand.NewSource(2))}
	for range 500 {
		x, l := garbage(m.all(5)), []api.Term{garbage(m.of(api.SortInt, 3)), garbage(m.of(api.SortInt, 3)), app("spare")}[:2]
		x.Vars = append(bounds(api.SortInt, "x", "y"), api.Bound{Name: "spare"})[:2]
		before := fmt.Sprint(whole(x), wholeList(l))
		sig := sigOf()
		Check(sig, x)
		Same(x, l[0])
		Same(x, x)
		Text(x)
		scribble(t, Apps(x.L[0]), map[any]bool{})
		got, e := Inst(x, l)
		if e != api.OK {
			t.Fatalf("P3.4: %v", e)
		}
		scribble(t, []api.Term{got}, map[any]bool{})
		if fmt.Sprint(whole(x), wholeList(l)) != before || !reflect.DeepEqual(sig, sigOf()) {
			t.Fatal("an argument has changed, or an answer shares memory with one")
		}
	}
}
