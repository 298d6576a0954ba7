package cnf

import (
	"math/rand"
	"reflect"
	"slices"
	"strconv"
	"testing"

	"avow/api"
	"avow/term"
)

// generator tells formulas that term.Check takes.
type generator struct {
	r          *rand.Rand
	quantified bool // TAlls, too
}

func (m generator) formula(deep int) api.Term {
	if deep == 0 || m.r.Intn(8) == 0 {
		return m.leaf()
	}
	next := func() api.Term { return m.formula(deep - 1) }
	switch m.r.Intn(9) {
	case 0:
		return not(next())
	case 1, 2:
		return op([]int{api.TAnd, api.TOr}[m.r.Intn(2)], m.several(deep-1)...)
	case 3:
		return op(api.TImp, next(), next())
	case 4:
		return op(api.TIff, next(), next())
	case 5:
		return same(next(), next())
	case 6, 7:
		return ite(next(), next(), next())
	}
	return m.twice(next())
}

// several tells operands, of which some are alike, or opposites.
func (m generator) several(deep int) []api.Term {
	var out []api.Term
	for range m.r.Intn(4) {
		x := m.formula(deep)
		out = append(out, x)
		switch m.r.Intn(5) {
		case 0:
			out = append(out, x)
		case 1:
			out = append(out, not(x))
		}
	}
	return out
}

func (m generator) twice(t api.Term) api.Term {
	o := []int{api.TIff, api.TEq, api.TAnd, api.TOr, api.TImp}[m.r.Intn(5)]
	if m.r.Intn(2) == 0 {
		return op(o, t, not(t))
	}
	return op(o, t, t)
}

func (m generator) leaf() api.Term {
	a, b, p, q := app("a"), app("b"), app("p"), app("q")
	x := variable("x", ints)
	l := []api.Term{p, q, p, q, app("r"), op(api.TTrue), op(api.TFalse), op(api.TLe, a, b), op(api.TLt, a, b), same(a, b), same(p, q), app("h", a, or(p, q)), same(app("o"), app("u")), op(api.TLe, ite(p, a, b), a), ite(not(p), or(p), q)}
	if m.quantified {
		l = append(l, all(p, "x"), all(app("h", x, p), "x"), all(same(x, a), "x", "y"), app("h", a, all(q, "y")))
	}
	return l[m.r.Intn(len(l))]
}

// solver: whether clauses can all be true, with some truths told ahead.
type solver struct {
	clauses [][]int
	in      map[int][]int // by numbers: the clauses that they stand in
	truth   []int         // by names: 1, -1; 0: not told
}

func newSolver(clauses [][]int) *solver {
	s := &solver{clauses: clauses, in: map[int][]int{}}
	for i, c := range clauses {
		for _, x := range c {
			s.in[x] = append(s.in[x], i)
		}
	}
	return s
}

func (s *solver) worth(x int) int {
	if x < 0 {
		return -s.truth[-x]
	}
	return s.truth[x]
}

// set makes numbers true, and what follows; it tells those that it set, and whether no clause came to be false.
func (s *solver) set(l ...int) ([]int, bool) {
	var done []int
	for len(l) > 0 {
		x := l[0]
		l = l[1:]
		if s.worth(x) < 0 {
			return done, false
		}
		if s.worth(x) > 0 {
			continue
		}
		done = append(done, x)
		s.truth[max(x, -x)] = x / max(x, -x)
		for _, i := range s.in[-x] {
			unit, ok := s.unit(s.clauses[i])
			if !ok {
				return done, false
			}
			l = append(l, unit...)
		}
	}
	return done, true
}

// unit tells the last number of a clause that can be true, if there is just one; false, if there is none.
func (s *solver) unit(c []int) ([]int, bool) {
	var open []int
	for _, x := range c {
		if s.worth(x) > 0 {
			return nil, true
		}
		if s.worth(x) == 0 {
			open = append(open, x)
		}
	}
	if len(open) == 1 {
		return open, true
	}
	return nil, len(open) > 0
}

func (s *solver) search() bool {
	x := slices.Index(s.truth[1:], 0) + 1
	if x == 0 {
		return true
	}
	for _, try := range []int{x, -x} {
		done, ok := s.set(try)
		if ok && s.search() {
			return true
		}
		for _, y := range done {
			s.truth[max(y, -y)] = 0
		}
	}
	return false
}

// some tells whether there are truths of the names behind the atoms with which all clauses are true.
func (s *solver) some(names int, atoms []bool) bool {
	s.truth = make([]int, names+1)
	var l []int
	for i, truth := range atoms {
		l = append(l, -i-1)
		if truth {
			l[i] = i + 1
		}
	}
	for _, c := range s.clauses {
		switch len(c) {
		case 0:
			return false
		case 1:
			l = append(l, c[0])
		}
	}
	_, ok := s.set(l...)
	return ok && s.search()
}

// checkShape holds an answer of Make against all that P5.2 and P5.3 say but for truths, and tells how many atoms there are.
func checkShape(t *testing.T, l []api.Term, names []api.Term, clauses [][]int) int {
	t.Helper()
	var atoms []api.Term
	size := 0
	for _, f := range l {
		size += term.Size(f)
		for _, a := range Atoms(f) {
			if !slices.ContainsFunc(atoms, func(b api.Term) bool { return term.Same(a, b) }) {
				atoms = append(atoms, a)
			}
		}
	}
	if len(names) < len(atoms) || !slices.EqualFunc(names[:len(atoms)], atoms, term.Same) {
		t.Fatalf("P5.2: %.200s: the names %.200v, wanted %.200v first", words(l), texts(names), texts(atoms))
	}
	if len(clauses) > 4*size+len(l) {
		t.Fatalf("P5.3: %d clauses of %d formulas of size %d", len(clauses), len(l), size)
	}
	for _, c := range clauses {
		seen := map[int]bool{}
		for _, x := range c {
			if name := max(x, -x); x == 0 || name > len(names) || seen[name] {
				t.Fatalf("P5.2: %.200s: the clause %.200v of %d names", words(l), c, len(names))
			} else {
				seen[name] = true
			}
		}
	}
	return len(atoms)
}

// checkUnder holds clauses against formulas under one assignment.
func checkUnder(t *testing.T, l []api.Term, names []api.Term, s *solver, atoms []bool) {
	t.Helper()
	truths := map[string]bool{}
	for i, truth := range atoms {
		truths[term.Text(names[i])] = truth
	}
	want := true
	for _, f := range l {
		truth, ok := holds(f, truths)
		if !ok {
			t.Fatalf("P5.2: an atom of %.200s has no name", term.Text(f))
		}
		want = want && truth
	}
	if got := s.some(len(names), atoms); got != want {
		t.Fatalf("P5.2: %.300s: under %v of %v: %v, wanted %v; the clauses %v", words(l), atoms, texts(names), got, want, s.clauses)
	}
}

// checkMake holds an answer of Make against P5.2 and P5.3, under every assignment, if there are few.
func checkMake(t *testing.T, l ...api.Term) ([]api.Term, [][]int) {
	t.Helper()
	names, clauses, e := Make(l)
	if e != api.OK {
		t.Fatalf("P5.2: %.200s: %v", words(l), e)
	}
	so := checkShape(t, l, names, clauses)
	s := newSolver(clauses)
	if so <= 8 {
		for bits := range 1 << so {
			checkUnder(t, l, names, s, truthsOf(bits, so))
		}
		return names, clauses
	}
	r := rand.New(rand.NewSource(int64(so)))
	for range 8 {
		atoms := make([]bool, so)
		for i := range atoms {
			atoms[i] = r.Intn(2) == 0
		}
		checkUnder(t, l, names, s, atoms)
	}
	return names, clauses
}

func truthsOf(bits, so int) []bool {
	out := make([]bool, so)
	for i := range out {
		out[i] = bits>>i&1 == 1
	}
	return out
}

func TestMakeOfNone(t *testing.T) {
	for _, l := range [][]api.Term{nil, {}} {
		if names, clauses, e := Make(l); len(names)+len(clauses) != 0 || e != api.OK {
			t.Errorf("P5.2: of no formula: %v, %v, %v", names, clauses, e)
		}
	}
}

func TestExampleOfTheChapter(t *testing.T) {
	names, _ := checkMake(t, or(app("p"), and(app("q"), app("r"))))
	if len(names) != 4 || words(names[:3]) != "p q r" {
		t.Errorf("the example: %v", texts(names))
	}
}

func TestMakeOfSmallFormulas(t *testing.T) {
	a, b, p, q, r := app("a"), app("b"), app("p"), app("q"), app("r")
	yes, no := op(api.TTrue), op(api.TFalse)
	le := op(api.TLe, a, b)
	inner := []api.Term{
		yes, no, p, not(p), and(), or(), and(p), or(p), and(p, p), or(p, p), and(p, not(p)), or(p, not(p)), and(p, q, p), or(not(p), q, not(p)), and(yes), or(no), and(no), or(yes), and(p, yes), or(p, no), and(p, no), or(p, yes), and(and(), p), or(or(), p), and(or(), p), or(and(), p),
		op(api.TImp, p, q), op(api.TImp, p, p), op(api.TImp, p, not(p)), op(api.TImp, not(p), p), op(api.TImp, yes, p), op(api.TImp, no, p), op(api.TImp, p, yes), op(api.TImp, p, no), op(api.TImp, yes, no),
		op(api.TIff, p, q), op(api.TIff, p, p), op(api.TIff, p, not(p)), op(api.TIff, yes, p), op(api.TIff, p, no), op(api.TIff, no, no), op(api.TIff, yes, no), op(api.TIff, q, or(q)),
		same(p, q), same(p, not(q)), same(p, or(p)), same(p, not(p)), same(yes, p), same(p, yes), same(no, yes), same(p, same(q, r)), same(same(p, q), same(q, p)), same(p, le),
		ite(p, q, r), ite(p, q, not(r)), ite(p, q, and(q)), ite(p, q, not(q)), ite(p, p, or(q)), ite(p, q, or(p)), ite(p, not(p), not(q)), ite(yes, p, or(q)), ite(no, p, or(q)), ite(p, yes, or(q)), ite(p, no, or(q)), ite(p, q, yes), ite(p, q, no), ite(p, yes, no), ite(p, no, yes), ite(p, yes, yes), ite(yes, yes, no), ite(p, not(q), ite(q, r, le)),
		le, app("h", a, and(p, q)), same(a, b), op(api.TLt, ite(p, a, b), a),
	}
	for _, x := range inner {
		for _, f := range []api.Term{x, not(x), not(not(x)), or(x, r), and(x, r), or(not(x), not(x)), op(api.TImp, r, x), op(api.TIff, x, r), op(api.TIff, x, x), same(r, not(x)), ite(x, q, or(r)), ite(r, x, not(x)), or(and(x, q), not(x))} {
			checkMake(t, f)
		}
	}
}

func TestMakeOfConstants(t *testing.T) {
	yes, no := op(api.TTrue), op(api.TFalse)
	for _, z := range []struct {
		l     []api.Term
		holds bool
	}{
		{[]api.Term{yes}, true}, {[]api.Term{no}, false}, {[]api.Term{yes, yes}, true}, {[]api.Term{yes, no}, false}, {[]api.Term{and()}, true}, {[]api.Term{or()}, false}, {[]api.Term{not(no), not(or(no, no))}, true}, {[]api.Term{or(and(no, yes), op(api.TIff, yes, no))}, false}, {[]api.Term{ite(yes, ite(no, no, yes), no)}, true},
	} {
		names, clauses := checkMake(t, z.l...)
		if got := newSolver(clauses).some(len(names), nil); got != z.holds {
			t.Errorf("P5.2: %s: %v, of %v", words(z.l), got, clauses)
		}
	}
}

func TestMakeOfSeveral(t *testing.T) {
	a, b, p, q, r := app("a"), app("b"), app("p"), app("q"), app("r")
	le := op(api.TLe, a, b)
	for _, z := range []struct {
		l    []api.Term
		want string
	}{
		{[]api.Term{p, q}, "p q"}, {[]api.Term{p, p}, "p"}, {[]api.Term{p, not(p)}, "p"}, {[]api.Term{or(r, le), or(p, le, r), q}, "r (<= a b) p q"},
		{[]api.Term{op(api.TIff, q, p), op(api.TTrue), op(api.TIff, p, q)}, "q p"}, {[]api.Term{or(p, and(q, r)), or(and(q, r), le), not(and(q, r))}, "p q r (<= a b)"},
		{[]api.Term{app("h", a, or(p, q)), or(q, p)}, "(h a (or p q)) q p"}, {[]api.Term{same(p, q), op(api.TIff, p, q)}, "(= p q) p q"}, {[]api.Term{and(or(p, q), or(q, r)), not(or(and(p, r), not(or(p, q))))}, "p q r"},
	} {
		names, _ := checkMake(t, z.l...)
		if so := len(slowAtoms(nil, z.l...)); words(names[:so]) != z.want {
			t.Errorf("P5.2: %s: %v, wanted %s first", words(z.l), texts(names), z.want)
		}
	}
}

func TestMakeOfQuantified(t *testing.T) {
	a, b, p, q := app("a"), app("b"), app("p"), app("q")
	every := all(p, "x")
	for _, x := range []api.Term{
		every, not(every), and(q, every), or(every, q), or(or(or(every))), op(api.TImp, p, every), op(api.TImp, every, p), op(api.TIff, every, every), same(p, every), ite(every, p, q), ite(p, every, not(q)), ite(p, q, every),
		app("h", a, every), or(p, app("h", a, not(every))), op(api.TLe, ite(every, a, b), b), same(a, app("f", ite(every, a, b))), same(every, p), op(api.TLt, a, ite(app("h", a, every), a, b)), or(op(api.TTrue), every), and(op(api.TFalse), every), all(every, "y"), op(api.TAll), op(99, every), op(api.TTrue, every), op(api.TNot, p, every),
	} {
		for _, l := range [][]api.Term{{x}, {p, x}, {x, p}, {op(api.TFalse), q, x, q}} {
			if names, clauses, e := Make(l); names != nil || clauses != nil || e != api.ErrCnf {
				t.Errorf("P5.2: %s: %v, %v, %v", words(l), names, clauses, e)
			}
		}
	}
	// A TVar alone is none; neither is what stands in fields that say nothing.
	checkMake(t, or(variable("x", bools), p), garbage(or(p, not(and(q, op(api.TLe, a, variable("x", ints)))))))
}

func TestMakeOfRandomFormulas(t *testing.T) {
	m := generator{r: rand.New(rand.NewSource(6))}
	for i := range 2000 {
		var l []api.Term
		for range 1 + m.r.Intn(3) {
			l = append(l, m.formula(1+i%5))
		}
		if slices.ContainsFunc(l, func(f api.Term) bool { sort, e := term.Check(sigOf(), f); return sort != bools || e != api.OK }) {
			t.Fatalf("no formulas: %s", words(l))
		}
		names, clauses := checkMake(t, l...)
		again, others, e := Make(garbageList(l))
		if !reflect.DeepEqual(again, names) || !reflect.DeepEqual(others, clauses) || e != api.OK {
			t.Fatalf("P5.2: %s, with other fields: %v, %v, %v, wanted %v, %v", words(l), again, others, e, names, clauses)
		}
	}
}

// Names behind the atoms are formulas that aren't atoms, unlike ones, and clauses are true where these are worth what they say: so a clause can be told of its names alone.
func TestNamesAreFormulas(t *testing.T) {
	m := generator{r: rand.New(rand.NewSource(7))}
	for range 500 {
		l := []api.Term{m.formula(4), m.formula(3)}
		names, clauses, _ := Make(l)
		seen := map[string]bool{}
		for _, x := range names {
			if sort, e := term.Check(sigOf(), x); sort != bools || e != api.OK || seen[term.Text(x)] {
				t.Fatalf("%s: the name %s: %v", words(l), term.Text(x), e)
			}
			seen[term.Text(x)] = true
		}
		so := len(slowAtoms(nil, l...))
		for bits := range 1 << min(so, 6) {
			truths := map[string]bool{}
			for i, x := range names[:so] {
				truths[term.Text(x)] = bits>>i&1 == 1
			}
			want, got := true, true
			for _, f := range l {
				v, _ := holds(f, truths)
				want = want && v
			}
			for _, c := range clauses {
				got = got && slices.ContainsFunc(c, func(x int) bool { v, _ := holds(names[max(x, -x)-1], truths); return v == (x > 0) })
			}
			if got != want {
				t.Fatalf("%s: %b: the clauses %v of %v", words(l), bits, clauses, texts(names))
			}
		}
	}
}

// nested tells formulas nested so deep at one operand of o, of so many, with atoms at the others.
func nested(o, so, at, deep int) api.Term {
	out := or(prop(0))
	for i := range deep {
		l := make([]api.Term, so)
		for j := range l {
			l[j] = prop((i + j) % 7)
		}
		l[at] = out
		if o == api.TIte || o == api.TEq {
			l[so-1] = or(l[so-1], prop(i%7))
		}
		out = op(o, l...)
	}
	return out
}

// full tells a tree of operators of so many operands each, so deep, over some of so many atoms.
func (m generator) full(o, so, deep, atoms int) api.Term {
	if deep == 0 {
		return prop(m.r.Intn(atoms))
	}
	var l []api.Term
	for range so {
		l = append(l, m.full(o, so, deep-1, atoms))
	}
	if o == api.TIte || o == api.TEq {
		l[so-1] = not(l[so-1])
	}
	return op(o, l...)
}

func TestClausesAreFew(t *testing.T) {
	m := generator{r: rand.New(rand.NewSource(9))}
	counts := map[int]int{api.TNot: 1, api.TAnd: 2, api.TOr: 2, api.TImp: 2, api.TIff: 2, api.TEq: 2, api.TIte: 3}
	for _, o := range []int{api.TNot, api.TAnd, api.TOr, api.TImp, api.TIff, api.TEq, api.TIte} {
		so := counts[o]
		for at := range so {
			for _, deep := range []int{1, 2, 3, 10, 90} {
				f := nested(o, so, at, deep)
				checkMake(t, f)
				checkMake(t, not(f), f, or(f, f))
			}
		}
		for deep := range 8 {
			for _, atoms := range []int{1, 2, 6, 300} {
				checkMake(t, m.full(o, so, deep, atoms))
				checkMake(t, or(m.full(o, so, deep, atoms), not(m.full(o, so, deep, atoms))))
			}
		}
	}
	checkMake(t, nested(api.TIff, 2, 0, api.MaxDepth-3), nested(api.TIff, 2, 1, api.MaxDepth-3))
	var l []api.Term
	for i := range 300 {
		l = append(l, op(api.TIff, prop(i), ite(prop((i+1)%300), not(prop((i+2)%300)), and(prop(i), prop((i+7)%300)))))
	}
	checkMake(t, l...)
	checkMake(t, and(l...))
	checkMake(t, or(l...))
	checkMake(t, not(or(l...)))
	wide := or()
	for i := range api.MaxNodes / 4 {
		wide.L = append(wide.L, and(prop(i%300), not(prop(i*7%299))))
	}
	checkMake(t, wide)
}

// Each of nested formulas has a name: they are told in short, where the formulas together would be too great.
func TestNamesAreNotTooGreat(t *testing.T) {
	big := make([]api.Term, api.MaxNodes/2)
	for i := range big {
		big[i] = numeral("1")
	}
	f := op(api.TLe, op(api.TAdd, big...), app("a"))
	for i := range api.MaxDepth - 3 {
		f = op([]int{api.TAnd, api.TOr}[i%2], prop(i%6), f)
	}
	if _, e := term.Check(sigOf(), f); e != api.OK {
		t.Fatal(e)
	}
	names, _ := checkMake(t, f)
	total := 0
	for i, x := range names {
		total += term.Size(x)
		if slices.ContainsFunc(names[:i], func(y api.Term) bool { return term.Same(x, y) }) {
			t.Errorf("P5.2: the name %d stands twice", i)
		}
	}
	if total > 2*mostNamed {
		t.Errorf("names of size %d", total)
	}
	deep := prop(0)
	for i := range 9998 {
		deep = op([]int{api.TAnd, api.TOr}[i%2], prop(i%8), deep)
	}
	checkMake(t, deep)
}

// What isn't a formula: nothing is promised but that it is answered.
func TestMakeOfNoFormulas(t *testing.T) {
	a, p, q := app("a"), app("p"), app("q")
	for _, x := range []api.Term{{}, op(99), op(-1, p), numeral("1"), numeral("x"), op(api.TAdd, a, a), app(""), op(api.TEq), op(api.TIte), op(api.TEq, p), op(api.TIte, p, q), op(api.TLe), op(api.TNot), op(api.TNot, p, q), op(api.TImp), op(api.TImp, p), op(api.TIff, p, q, p), op(api.TEq, p, not(q), or(a)), op(api.TEq, or(p)), op(api.TIte, p, or(q)), op(api.TIte, p, q, q, or(q)), op(api.TTrue, p), op(api.TFalse, q)} {
		for _, l := range [][]api.Term{{x}, {not(x)}, {or(p, x), x}, {op(api.TIff, x, x), and(x, not(x))}} {
			names, clauses, e := Make(l)
			if e != api.OK {
				t.Errorf("P5.2: %s: %v", words(l), e)
			}
			checkShape(t, l, names, clauses)
		}
	}
}

// Formulas that share lists, or are deeper than any limit, or contain themselves: calls end, and don't panic.
func TestMakeEnds(t *testing.T) {
	p, q := app("p"), app("q")
	for _, o := range []int{0, api.TNot, api.TAnd, api.TOr, api.TImp, api.TIff, api.TEq, api.TIte, api.TApp, api.TAll} {
		for _, so := range []int{1, 2, 3} {
			Make([]api.Term{p, not(endless(o, so))})
		}
		Make([]api.Term{doubled(o, 200, or(p, q))})
		Make([]api.Term{not(doubled(o, 200, or(p, q)))})
		Make([]api.Term{or(q, doubled(o, 200, p), app("h", doubled(o, 200, p)))})
	}
	m := generator{r: rand.New(rand.NewSource(10))}
	shared := doubled(api.TOr, 6, m.full(api.TIff, 2, 4, 7))
	shared = doubled(api.TIff, 3, shared)
	checkMake(t, shared, not(shared))
	for _, so := range []int{60000, 70000, 200000} {
		Make([]api.Term{chain(api.TNot, so, p), not(chain(api.TAnd, so, p))})
		Make([]api.Term{op(api.TIff, q, chain(api.TApp, so, p))})
	}
}

// What is handed in isn't changed, the spare room behind lists included; what is answered is memory of its own.
func TestMakeKeepsArguments(t *testing.T) {
	m := generator{r: rand.New(rand.NewSource(8))}
	for range 300 {
		l := garbageList([]api.Term{m.formula(4), m.formula(4), m.formula(2)})
		before := wholeList(l)
		names, clauses, _ := Make(l)
		kept := strconv.Itoa(len(names)) + words(names)
		seen := map[any]bool{}
		scribble(t, names, seen)
		scribbleClauses(t, clauses, seen)
		if !reflect.DeepEqual(wholeList(l), before) {
			t.Fatalf("P5.2: an argument has changed: %s", words(l))
		}
		if again, _, _ := Make(l); strconv.Itoa(len(again))+words(again) != kept {
			t.Fatalf("P5.2: %s, again: %v", words(l), texts(again))
		}
	}
}
