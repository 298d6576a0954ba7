package smt

import (
	"slices"
	"strconv"
	"testing"

	"avow/api"
	"avow/term"
)

// sumOf tells a number of these names, numbers of one digit, and products by -1, 1, 2.
func (m maker) sumOf(names []string, deep int) api.Term {
	if deep <= 0 || m.Intn(12) == 0 {
		if len(names) > 0 && m.Intn(3) > 0 {
			return app(names[m.Intn(len(names))])
		}
		return count(m.Intn(19) - 9)
	}
	in := func(deep int) api.Term { return m.sumOf(names, deep) }
	switch m.Intn(6) {
	case 0:
		return op(api.TAdd, in(deep-1), in(m.Intn(deep)), in(m.Intn(deep)))
	case 1:
		return op(api.TSub, in(deep-1), in(m.Intn(deep)))
	case 2:
		return op(api.TNeg, in(deep-1))
	}
	return op(api.TMul, count([]int{-1, 1, 2}[m.Intn(3)]), in(deep-1))
}

// chain tells a number that is as deep as so many products: it has many digits.
func (m maker) chain(names []string, deep int) api.Term {
	out := m.sumOf(names, 0)
	for range deep {
		switch m.Intn(5) {
		case 0:
			out = op(api.TAdd, out, m.sumOf(names, 0))
		case 1:
			out = op(api.TSub, m.sumOf(names, 0), out)
		default:
			out = op(api.TMul, count(2), out)
		}
	}
	return out
}

// within tells formulas within P13.2, and their names of numbers: at most 8 atoms, the bounds included.
func (m maker) within(side func(names []string) api.Term, deep int) ([]api.Term, []string) {
	names := []string{"a", "b", "c"}[:m.Intn(4)]
	var l, atoms []api.Term
	for _, n := range names {
		l = append(l, atMost(count(0), app(n)), atMost(app(n), count(9)))
	}
	for range 8 - len(l) {
		if m.Intn(4) == 0 {
			atoms = append(atoms, m.of(app("p"), app("q")))
		} else {
			atoms = append(atoms, op([]int{api.TLe, api.TLt, api.TEq, api.TEq}[m.Intn(4)], side(names), side(names)))
		}
	}
	atoms = append(atoms, l...)
	for range 1 + m.Intn(5) {
		l = append(l, m.connected(atoms, m.Intn(deep)))
	}
	m.Shuffle(len(l), func(i, j int) { l[i], l[j] = l[j], l[i] })
	return l, names
}

// plainNumber tells what a sum comes to.
func plainNumber(t *api.Term, at map[string]int) int {
	out := 0
	switch t.Op {
	case api.TNum:
		out, _ = strconv.Atoi(t.N)
	case api.TAdd:
		for i := range t.L {
			out += plainNumber(&t.L[i], at)
		}
	case api.TSub:
		out = plainNumber(&t.L[0], at) - plainNumber(&t.L[1], at)
	case api.TNeg:
		out = -plainNumber(&t.L[0], at)
	case api.TMul:
		out = plainNumber(&t.L[0], at) * plainNumber(&t.L[1], at)
	default:
		out = at[t.Name]
	}
	return out
}

// plainTruth tells whether a formula holds; truths are 1.
func plainTruth(t *api.Term, at map[string]int) bool {
	in := func(i int) bool { return plainTruth(&t.L[i], at) }
	switch {
	case t.Op == api.TTrue:
		return true
	case t.Op == api.TFalse:
		return false
	case t.Op == api.TNot:
		return !in(0)
	case t.Op == api.TAnd:
		return !slices.ContainsFunc(t.L, func(x api.Term) bool { return !plainTruth(&x, at) })
	case t.Op == api.TOr:
		return slices.ContainsFunc(t.L, func(x api.Term) bool { return plainTruth(&x, at) })
	case t.Op == api.TImp:
		return !in(0) || in(1)
	case t.Op == api.TIff || t.Op == api.TEq && isTruth(&t.L[0]):
		return in(0) == in(1)
	case t.Op == api.TEq:
		return plainNumber(&t.L[0], at) == plainNumber(&t.L[1], at)
	case t.Op == api.TLe:
		return plainNumber(&t.L[0], at) <= plainNumber(&t.L[1], at)
	case t.Op == api.TLt:
		return plainNumber(&t.L[0], at) < plainNumber(&t.L[1], at)
	}
	return at[t.Name] == 1
}

func isTruth(t *api.Term) bool {
	sort, _ := term.Check(sigOf(), *t)
	return sort == bools
}

// plainVerdict asks all numbers from 0 to 9, and both truths.
func plainVerdict(l []api.Term, names []string) int {
	at := map[string]int{}
	var try func(i int) bool
	try = func(i int) bool {
		if i == len(names)+2 {
			return !slices.ContainsFunc(l, func(t api.Term) bool { return !plainTruth(&t, at) })
		}
		name, most := "p", 2
		switch {
		case i < len(names):
			name, most = names[i], 10
		case i > len(names):
			name = "q"
		}
		for n := range most {
			at[name] = n
			if try(i + 1) {
				return true
			}
		}
		return false
	}
	if try(0) {
		return api.Sat
	}
	return api.Unsat
}

// TestNumbers: P13.2, against all numbers.
func TestNumbers(t *testing.T) {
	m := newMaker(21)
	counts := [3]int{}
	for range 250 {
		l, names := m.within(func(names []string) api.Term { return m.sumOf(names, m.Intn(4)) }, 5)
		got, want := ask(t, l, enough), plainVerdict(l, names)
		if got != want {
			t.Fatalf("P13.2: %d, wanted %d\n%s", got, want, texts(l))
		}
		counts[got]++
	}
	if counts[api.Sat] < 50 || counts[api.Unsat] < 50 {
		t.Errorf("P13.2: so many of each verdict: %v", counts)
	}
}

// TestGreatNumbers: P13.2, with sums as deep as they may be, and great formulas.
func TestGreatNumbers(t *testing.T) {
	m := newMaker(22)
	counts := [3]int{}
	for range 250 {
		side := func(names []string) api.Term {
			if m.Intn(2) == 0 {
				return m.chain(names, m.Intn(api.MaxDepth-12))
			}
			return m.sumOf(names, m.Intn(9))
		}
		l, _ := m.within(side, 8)
		if term.Size(op(api.TAnd, l...)) > api.MaxNodes {
			continue
		}
		counts[ask(t, l, enough)]++
	}
	if counts[api.Unknown] > 0 || counts[api.Sat] < 50 || counts[api.Unsat] < 50 {
		t.Errorf("P13.2: so many of each verdict: %v", counts)
	}
}

// times tells a term a random number of times that has so many bits.
func (m maker) times(t api.Term, bits int) api.Term {
	out := t
	for range bits {
		out = op(api.TMul, count(2), out)
		if m.Intn(2) == 0 {
			out = op(api.TAdd, out, t)
		}
	}
	return out
}

// TestKnapsacks: P13.2, of sums of great multiples that are to be one number.
func TestKnapsacks(t *testing.T) {
	m := newMaker(23)
	counts := [3]int{}
	for range 120 {
		bits := m.Intn(90)
		side := func(names []string) api.Term {
			out := op(api.TAdd, m.times(count(1+m.Intn(9)), bits))
			for _, n := range names {
				out.L = append(out.L, m.times(op(api.TMul, count([]int{-1, 1}[m.Intn(2)]), app(n)), max(0, bits-m.Intn(4))))
			}
			return out
		}
		l, _ := m.within(side, 4)
		counts[ask(t, l, enough)]++
	}
	if counts[api.Unknown] > 0 || counts[api.Sat] < 20 || counts[api.Unsat] < 20 {
		t.Errorf("P13.2: so many of each verdict: %v", counts)
	}
}

// TestGreatFormulas: P13.2, of formulas as great as they may be.
func TestGreatFormulas(t *testing.T) {
	m := newMaker(24)
	a := app("a")
	atoms := terms(app("p"), app("q"), app("r"), app("s"), same(a, count(5)), less(a, count(3)), atMost(count(0), a), atMost(a, count(9)))
	counts := [3]int{}
	for i := range 8 {
		l := slices.Clone(atoms[6:])
		size := 6
		for size < api.MaxNodes {
			x := m.connected(atoms, 3+3*(i%3))
			if m.Intn(9) == 0 {
				x = op(api.TOr, x, m.connected(atoms, 9))
			}
			size += 1 + term.Size(x)
			l = append(l, x)
		}
		l = l[:len(l)-1]
		// All of them, or all but some, are made true by one structure.
		at := map[string]int{"p": m.Intn(2), "q": m.Intn(2), "r": m.Intn(2), "s": m.Intn(2), "a": m.Intn(10)}
		for k := range l {
			if !plainTruth(&l[k], at) && (i%2 == 0 || m.Intn(99) > 0) {
				l[k] = not(l[k])
			}
		}
		counts[ask(t, l, enough)]++
	}
	if counts[api.Unknown] > 0 || counts[api.Sat] < 3 || counts[api.Unsat] < 3 {
		t.Errorf("P13.2: so many of each verdict: %v", counts)
	}
}

// made tells an object of TApps alone, of at most so great a size.
func (m maker) made(sort, size int) api.Term {
	in := func(sort int) api.Term { return m.made(sort, size-1) }
	switch {
	case sort == bools && (size < 2 || m.Intn(2) == 0):
		return m.of(app("p"), app("q"), app("r"), app("s"))
	case sort == bools:
		return m.of(app("h", in(objs)), app("hb", in(bools)))
	case sort == ints && (size < 2 || m.Intn(2) == 0):
		return m.of(app("a"), app("b"))
	case sort == ints:
		return m.of(app("f", in(ints)), app("k", in(objs)), app("t", in(bools)))
	case size < 2:
		return m.of(app("o"), app("u"), app("w"))
	case size > 2 && m.Intn(4) == 0:
		return app("m", m.made(objs, size/2), m.made(objs, size-1-size/2))
	}
	return m.of(app("g", in(objs)), app("g", in(objs)), app("gb", in(bools)), app("gi", in(ints)))
}

// equations tells equations of objects, of at most 20 in size together.
func (m maker) equations() []api.Term {
	var out []api.Term
	for left := 20; left > 2 && len(out) < 1+m.Intn(10); {
		x := same(m.made(objs, min(1+m.Intn(4), left/2)), m.made(objs, min(1+m.Intn(4), left/2)))
		out = append(out, x)
		left -= term.Size(x) - 1
	}
	return out
}

// TestObjects: P13.2, of equations of objects, whose operands may be of any sort.
func TestObjects(t *testing.T) {
	m := newMaker(25)
	counts := [3]int{}
	for range 1500 {
		atoms := m.equations()
		var l []api.Term
		if m.Intn(3) == 0 {
			for _, x := range atoms {
				l = append(l, m.of(x, not(x), not(x)))
			}
		} else {
			for range 1 + m.Intn(8) {
				l = append(l, m.connected(atoms, m.Intn(6)))
			}
		}
		counts[ask(t, l, enough)]++
	}
	if counts[api.Unknown] > 0 || counts[api.Sat] < 200 || counts[api.Unsat] < 200 {
		t.Errorf("P13.2: so many of each verdict: %v", counts)
	}
	// There are but two truths.
	gb := func(name string) api.Term { return app("gb", app(name)) }
	two := terms(not(same(gb("p"), gb("q"))), not(same(gb("q"), gb("r"))), not(same(gb("p"), gb("r"))))
	asksAll(t, "P13.2", []verdictOf{{two, api.Unsat}, {two[:2], api.Sat}, {append(two[:2:2], same(gb("r"), app("o")), same(gb("p"), app("u")), not(same(app("o"), app("u")))), api.Unsat}})
}
