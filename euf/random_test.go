package euf

import (
	"fmt"
	"math/rand"
	"slices"
	"strconv"
	"testing"

	"avow/api"
	"avow/model"
	"avow/term"
)

// maker makes terms and literals: of all operators, or (sorted) such that they can be asked in a structure.
type maker struct {
	r      *rand.Rand
	sorted bool
	pool   []api.Term
}

func pick[T any](m maker, l ...T) T { return l[m.r.Intn(len(l))] }

// term tells a term of a sort, if these are kept, at most so deep.
func (m maker) term(sort, deep int) api.Term {
	if m.sorted {
		return m.ofSort(sort, deep)
	}
	if deep == 0 || m.r.Intn(3) == 0 {
		return pick(m, app("a"), app("b"), app("c"), app("a"), app("b"), app("c"), numeral("1"), numeral("2"), numeral("01"), app("1"), yes(), no(), op(0), op(api.TAdd))
	}
	out := pick(m, app("f"), app("f"), app("f"), app("g"), op(api.TAdd), op(api.TNeg), op(api.TNot), op(api.TEq), op(api.TIte), op(77), numeral("1"), numeral("2"), yes(), app("a"))
	for range pick(m, 1, 1, 1, 2, 2, 3) {
		out.L = append(out.L, m.term(sort, deep-1))
	}
	return out
}

func (m maker) ofSort(sort, deep int) api.Term {
	if deep == 0 || m.r.Intn(3) == 0 {
		switch sort {
		case ints:
			return pick(m, app("i"), app("j"), numeral("0"), numeral("1"))
		case bools:
			return pick(m, app("p"), app("q"), app("p"), app("q"), yes(), no())
		}
		return pick(m, app("a"), app("b"), app("c"))
	}
	x := func(sort int) api.Term { return m.ofSort(sort, deep-1) }
	switch sort {
	case ints:
		return pick(m, app("k", x(objs)), app("n", x(ints)), op(api.TAdd, x(ints), x(ints)), op(api.TIte, x(bools), x(ints), x(ints)))
	case bools:
		return pick(m, app("h", x(objs)), op(api.TLe, x(ints), x(ints)), op(api.TNot, x(bools)), same(x(objs), x(objs)))
	}
	return pick(m, app("f", x(objs)), app("f", x(objs)), app("g", x(objs), x(objs)))
}

func (m maker) lit(deep int) api.Lit {
	if m.r.Intn(4) == 0 {
		atom := m.term(bools, deep)
		if atom.Op != api.TEq || len(atom.L) == 2 {
			return api.Lit{Neg: m.r.Intn(2) == 0, Atom: atom}
		}
	}
	sort := pick(m, ints, bools, objs, objs)
	return api.Lit{Neg: m.r.Intn(3) == 0, Atom: same(m.term(sort, deep), m.term(sort, deep))}
}

// newMaker tells a maker with a few terms that it comes back to, so that many of them come to be equal.
func newMaker(seed int64) maker {
	m := maker{r: rand.New(rand.NewSource(seed)), sorted: seed%2 == 0}
	for range 3 {
		m.pool = append(m.pool, parts(m.term(pick(m, ints, bools, objs, objs), 2))...)
	}
	return m
}

// parts tells all terms that stand in t.
func parts(t api.Term) []api.Term {
	out := []api.Term{t}
	for _, x := range t.L {
		out = append(out, parts(x)...)
	}
	return out
}

// near tells a term of the pool, or around one of them, or any.
func (m maker) near() api.Term {
	t := pick(m, m.pool...)
	switch m.r.Intn(6) {
	case 0:
		return m.term(objs, 2)
	case 1:
		return pick(m, app("f", t), app("f", t, app("a")), op(api.TNeg, t), op(88, app("b"), t))
	}
	return t
}

// next tells a literal, most often of terms of the pool, whatever their sorts.
func (m maker) next() api.Lit {
	switch m.r.Intn(6) {
	case 0:
		return m.lit(2)
	case 1, 2:
		return isnt(same(m.near(), m.near()))
	}
	return is(same(m.near(), m.near()))
}

// script: an Euf, what it must have been told, and Pushes; all that it answers is written down.
type script struct {
	maker
	t       *testing.T
	e       *Euf
	l       []api.Lit
	marks   []int
	answers string
}

func (s *script) step() {
	switch s.r.Intn(10) {
	case 0, 1:
		s.e.Push()
		s.marks = append(s.marks, len(s.l))
	case 2, 3:
		s.pop()
	case 4:
		s.refused()
	default:
		s.assert(s.next())
	}
	s.answers += fmt.Sprint(s.e.Conflict())
}

func (s *script) pop() {
	had := len(s.marks) > 0
	if s.e.Pop() != had {
		s.t.Fatal("P8.2: Pop")
	}
	if had {
		last := len(s.marks) - 1
		s.l, s.marks = s.l[:s.marks[last]], s.marks[:last]
	}
}

func (s *script) refused() {
	atom := pick(s.maker, variable("x"), same(s.term(objs, 1), variable("x")), op(api.TEq, s.term(objs, 1)), op(api.TEq), app("f", s.term(objs, 1), all(yes())))
	if can, err := s.e.Assert(api.Lit{Neg: s.r.Intn(2) == 0, Atom: atom}); can || err != api.ErrEuf {
		s.t.Fatalf("P8.1: %s: %v, %v", term.Text(atom), can, err)
	}
}

func (s *script) assert(x api.Lit) {
	s.l = append(slices.Clip(s.l), x)
	can, err := s.e.Assert(x)
	if _, want := saidBy(s.l); can != want || err != api.OK {
		s.t.Fatalf("P8.1: %s: %v, %v", words(s.l...), can, err)
	}
	s.answers += fmt.Sprint(can)
}

// check holds all answers to be right, and those of an Euf that was told just what is left, and nothing else.
func (s *script) check() (equal int) {
	_, can := saidBy(s.l)
	checkConflict(s.t, s.e, s.l, can)
	fresh, _ := told(s.t, s.l...)
	if !slices.Equal(fresh.Conflict(), s.e.Conflict()) {
		s.t.Fatalf("P8.2: %s: %v, but as if nothing else had been: %v", words(s.l...), s.e.Conflict(), fresh.Conflict())
	}
	for range 3 {
		a, b := s.near(), s.near()
		if checkPair(s.t, s.e, s.l, a, b) {
			equal++
		}
		why, _ := s.e.Explain(a, b)
		if other, _ := fresh.Explain(a, b); !slices.Equal(why, other) {
			s.t.Fatalf("P8.2: %s: of %s, %s: %v, but as if nothing else had been: %v", words(s.l...), term.Text(a), term.Text(b), why, other)
		}
		s.answers += fmt.Sprint(why)
	}
	return equal
}

// runScript tells all answers, and how many were equal, and couldn't be.
func runScript(t *testing.T, m maker, steps int) (string, int, int) {
	s := &script{maker: m, t: t, e: New()}
	equal, bad := 0, 0
	for range steps {
		s.step()
		equal += s.check()
		bad += min(len(s.e.Conflict()), 1)
	}
	return s.answers, equal, bad
}

func TestRandomScripts(t *testing.T) {
	equal, bad := 0, 0
	for seed := range int64(400) {
		answers, e, b := runScript(t, newMaker(seed), 20)
		if again, _, _ := runScript(t, newMaker(seed), 20); again != answers {
			t.Fatalf("not the same again: %d", seed)
		}
		equal, bad = equal+e, bad+b
	}
	if equal < 2000 || bad < 1000 || bad > 7000 {
		t.Errorf("%d are equal, %d can't be", equal, bad)
	}
}

// joiner tells a maker of literals over a few constants and what is around them, most of which come to be equal in many ways.
func joiner(seed int64) maker {
	m := maker{r: rand.New(rand.NewSource(seed)), sorted: true}
	for i := range 6 {
		x := app("x" + strconv.Itoa(i))
		m.pool = append(m.pool, x, x, x, app("f", x))
	}
	if seed%2 == 0 {
		m.pool = append(m.pool, numeral("1"), numeral("2"), numeral("3"))
	}
	return m
}

// TestRandomJoins: long scripts, in which classes come together and apart again, each time along other ways.
func TestRandomJoins(t *testing.T) {
	equal, bad := 0, 0
	for seed := range int64(100) {
		_, e, b := runScript(t, joiner(seed), 80)
		equal, bad = equal+e, bad+b
	}
	if equal < 2000 || bad < 1000 || bad > 7000 {
		t.Errorf("%d are equal, %d can't be", equal, bad)
	}
}

// TestRandomLists: lists of literals in whatever order, and by what their opposites make valid.
func TestRandomLists(t *testing.T) {
	bad := 0
	for seed := range int64(3000) {
		m := newMaker(seed)
		var l []api.Lit
		for range m.r.Intn(10) {
			l = append(l, m.next())
		}
		_, want := saidBy(l)
		if !want {
			bad++
		}
		for range 3 {
			m.r.Shuffle(len(l), func(i, k int) { l[i], l[k] = l[k], l[i] })
			e, can := told(t, l...)
			if can != want {
				t.Fatalf("P8.1: %s: %v", words(l...), can)
			}
			checkConflict(t, e, l, want)
			checkPair(t, e, l, m.near(), m.near())
			if Valid(opposites(l)) == want {
				t.Fatalf("P8.4: %s", words(opposites(l)...))
			}
		}
	}
	if bad < 500 || bad > 2500 {
		t.Errorf("%d can't be", bad)
	}
}

// TestAllShortLists: every list of up to three literals over a few terms.
func TestAllShortLists(t *testing.T) {
	a, b := app("a"), app("b")
	terms := []api.Term{a, b, app("f", a), app("f", b), numeral("1"), numeral("2"), yes()}
	var lits []api.Lit
	for i, x := range terms {
		for _, y := range terms[:i] {
			lits = append(lits, is(same(x, y)), isnt(same(y, x)))
		}
	}
	lits = append(lits, is(a), isnt(a), is(app("f", a)), isnt(app("f", b)), is(no()))
	for i, x := range lits {
		for k, y := range lits[:i+1] {
			for _, z := range lits[:k+1] {
				l := []api.Lit{y, x, z}
				e, can := told(t, l...)
				if _, want := saidBy(l); can != want || Valid(opposites(l)) == want {
					t.Fatalf("P8.1, P8.4: %s: %v", words(l...), can)
				}
				checkConflict(t, e, l, can)
			}
		}
	}
}

func sigOf() []api.Fun {
	return []api.Fun{
		{Name: "a", Out: objs}, {Name: "b", Out: objs}, {Name: "c", Out: objs}, {Name: "i", Out: ints}, {Name: "j", Out: ints}, {Name: "p", Out: bools}, {Name: "q", Out: bools},
		{Name: "f", Args: []int{objs}, Out: objs}, {Name: "g", Args: []int{objs, objs}, Out: objs}, {Name: "k", Args: []int{objs}, Out: ints}, {Name: "n", Args: []int{ints}, Out: ints}, {Name: "h", Args: []int{objs}, Out: bools},
	}
}

// structure tells one of few objects and small numbers, with a row for each list of these.
func (m maker) structure() api.Model {
	out := api.Model{Objs: 1 + m.r.Intn(3)}
	values := map[int][]string{ints: {"0", "1", "2"}, bools: {"true", "false"}}
	for o := range out.Objs {
		values[objs] = append(values[objs], "#"+strconv.Itoa(o))
	}
	for _, f := range sigOf() {
		lists := [][]string{nil}
		for _, sort := range f.Args {
			var longer [][]string
			for _, l := range lists {
				for _, v := range values[sort] {
					longer = append(longer, append(slices.Clip(l), v))
				}
			}
			lists = longer
		}
		table := api.Table{Name: f.Name, Else: pick(m, values[f.Out]...)}
		for _, l := range lists {
			table.Rows = append(table.Rows, api.Row{Args: l, Out: pick(m, values[f.Out]...)})
		}
		out.Tables = append(out.Tables, table)
	}
	return out
}

func formulas(l []api.Lit) []api.Term {
	var out []api.Term
	for _, x := range l {
		if x.Neg {
			out = append(out, op(api.TNot, x.Atom))
		} else {
			out = append(out, x.Atom)
		}
	}
	return out
}

// TestP8_5: what can't be has no structure, and what is equal by assertions is so in each structure in which they hold.
func TestP8_5(t *testing.T) {
	held, bad, equal := 0, 0, 0
	for seed := range int64(600) {
		m := maker{r: rand.New(rand.NewSource(seed)), sorted: true}
		var l []api.Lit
		for range 1 + m.r.Intn(6) {
			l = append(l, m.lit(1))
		}
		e, can := told(t, l...)
		conflict := formulas(some(l, e.Conflict()))
		if !can {
			bad++
		}
		x, y := m.term(objs, 2), m.term(objs, 2)
		why, alike := e.Explain(x, y)
		reasons := formulas(some(l, why))
		for range 60 {
			s := m.structure()
			holds, err := model.Holds(sigOf(), s, formulas(l))
			if err != api.OK || holds && !can {
				t.Fatalf("P8.5: %s: %v, %v in %v", words(l...), holds, err, s)
			}
			if holds {
				held++
			}
			if holds, _ := model.Holds(sigOf(), s, conflict); holds && !can {
				t.Fatalf("P8.5: %s: conflict %v holds in %v", words(l...), e.Conflict(), s)
			}
			if holds, _ := model.Holds(sigOf(), s, reasons); !holds || !alike {
				continue
			}
			equal++
			if holds, _ := model.Holds(sigOf(), s, []api.Term{same(x, y)}); !holds {
				t.Fatalf("P8.3: %s: %s isn't %s in %v", words(l...), term.Text(x), term.Text(y), s)
			}
		}
	}
	if held < 1000 || bad < 50 || equal < 500 {
		t.Errorf("%d hold, %d can't be, %d are equal", held, bad, equal)
	}
}
