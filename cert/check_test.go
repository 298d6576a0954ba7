package cert_test

import (
	"slices"
	"testing"

	"avow/api"
	"avow/cert"
	"avow/model"
	"avow/term"
)

// checks asks Check, and wants this.
func checks(t *testing.T, name string, l []api.Term, c []api.Line, n int, err api.Errno) {
	t.Helper()
	if got, e := cert.Check(sigOf(), l, c); got != n || e != err {
		t.Errorf("P12.3: %s: %d, %v, wanted %d, %v", name, got, e, n, err)
	}
}

// TestCheck: the first line that isn't taken; nothing refuted; else all is well.
func TestCheck(t *testing.T) {
	a, p, q := app("a"), app("p"), app("q")
	lt := less(a, a)
	l := terms(lt)
	c := []api.Line{input(0), arithmetic(sum("1"), neg(lt)), follows()}
	checks(t, "the chapter's", l, c, 3, api.OK)
	checks(t, "without its end", l, c[:2], 2, api.ErrCertEnd)
	checks(t, "without its middle", l, []api.Line{c[0], c[2]}, 1, api.ErrCertLine)
	checks(t, "of nothing", l, nil, 0, api.ErrCertEnd)
	checks(t, "of no formulas", nil, nil, 0, api.ErrCertEnd)
	checks(t, "of no formulas", nil, c, 0, api.ErrCertLine)
	checks(t, "in another order", l, []api.Line{c[1], c[0], c[2]}, 3, api.OK)
	checks(t, "the end ahead", l, []api.Line{c[2], c[0], c[1]}, 0, api.ErrCertLine)
	checks(t, "the end in the middle", l, []api.Line{c[0], c[2], c[1]}, 1, api.ErrCertLine)
	// All lines are asked, those behind an empty clause too; once it is there, all follows.
	checks(t, "a wrong line behind", l, append(c[:3:3], api.Line{}), 3, api.ErrCertLine)
	checks(t, "two wrong lines behind", l, append(c[:3:3], input(1), api.Line{}), 3, api.ErrCertLine)
	checks(t, "more behind", l, append(c[:3:3], follows(pos(p)), input(0), follows(neg(p)), follows(), taut(pos(p), neg(p))), 8, api.OK)
	checks(t, "what is no formula behind", l, append(c[:3:3], follows(pos(p)), follows(pos(a))), 4, api.ErrCertLine)
	// Only what is ahead counts.
	four := terms(op(api.TOr, p, q), op(api.TOr, p, not(q)), op(api.TOr, not(p), q), op(api.TOr, not(p), not(q)))
	c, ok := refute(four)
	if !ok {
		t.Fatal("no certificate of four clauses")
	}
	checks(t, "of four clauses", four, c, len(c), api.OK)
	for i := range c {
		less := slices.Delete(slices.Clone(c), i, i+1)
		n, err := plainCheck(sigOf(), four, less)
		checks(t, "of four clauses, one line left out", four, less, n, err)
		n, err = plainCheck(sigOf(), four, append(less, c[i]))
		checks(t, "of four clauses, one line moved to the end", four, append(less, c[i]), n, err)
		last := slices.Insert(slices.Clone(c[:len(c)-1]), i, c[len(c)-1])
		n, err = plainCheck(sigOf(), four, last)
		checks(t, "of four clauses, the end moved ahead", four, last, n, err)
	}
	for i := range four {
		at := slices.IndexFunc(c, func(x api.Line) bool { return x.Kind == api.LineInput && x.I == i })
		wrong := slices.Clone(four)
		wrong[i] = a
		checks(t, "of three clauses and a number", wrong, c, at, api.ErrCertLine)
	}
}

// changed tells c with something changed.
func (m maker) changed(c []api.Line) []api.Line {
	c = slices.Clone(c)
	i, k := m.r.Intn(len(c)), m.r.Intn(len(c))
	x := &c[i]
	x.Clause = slices.Clone(x.Clause)
	switch at := m.r.Intn(max(len(x.Clause), 1)); m.r.Intn(13) {
	case 0:
		return slices.Delete(c, i, i+1)
	case 1:
		c[i], c[k] = c[k], c[i]
	case 2:
		return slices.Insert(c, i, c[k])
	case 3:
		x.Kind = 1 + m.r.Intn(8)
	case 4:
		x.I += m.r.Intn(3) - 1
	case 5:
		x.Clause = append(x.Clause, api.Lit{Neg: m.r.Intn(2) == 0, Atom: m.atom(1)})
	case 6:
		x.Terms = append(slices.Clone(x.Terms), m.number(1))
	case 7:
		x.F = sum("1", "1", "1")
	case 8:
		x.Clause = slices.Clone(c[k].Clause)
	case 9:
		if len(x.Clause) > 0 {
			x.Clause[at].Neg = !x.Clause[at].Neg
		}
	case 10:
		if len(x.Clause) > 0 {
			x.Clause = slices.Delete(x.Clause, at, at+1)
		}
	case 11:
		if len(x.Clause) > 0 {
			x.Clause[0], x.Clause[at] = x.Clause[at], x.Clause[0]
		}
	case 12:
		if len(x.Clause) > 0 && len(c[k].Clause) > 0 {
			x.Clause[at].Atom = c[k].Clause[0].Atom
		}
	}
	return c
}

// TestRefuted: certificates are taken; changed ones as the words have it; and what is refuted has no model.
func TestRefuted(t *testing.T) {
	kinds := map[int]int{}
	ends := map[api.Errno]int{}
	proved(12, 90, func(m maker, l []api.Term, c []api.Line) {
		checks(t, "what was made", l, c, len(c), api.OK)
		m.hasNoModel(t, l)
		for _, x := range c {
			kinds[x.Kind]++
		}
		for range 20 {
			with := m.changed(c)
			for range m.r.Intn(2) {
				with = m.changed(with)
			}
			n, err := plainCheck(sigOf(), l, with)
			checks(t, "what was changed", l, with, n, err)
			ends[err]++
		}
		if t.Failed() {
			t.FailNow()
		}
	})
	for kind := api.LineInput; kind <= api.LineRup; kind++ {
		if kinds[kind] < 20 {
			t.Errorf("only %d lines of kind %d", kinds[kind], kind)
		}
	}
	if ends[api.OK] < 200 || ends[api.ErrCertEnd] < 10 || ends[api.ErrCertLine] < 200 {
		t.Errorf("too few certificates that end so: %v", ends)
	}
}

// hasNoModel asks structures whether they make all of l true.
func (m maker) hasNoModel(t *testing.T, l []api.Term) {
	t.Helper()
	for range 60 {
		structure := m.model()
		if holds, e := model.Holds(sigOf(), structure, l); holds || e != api.OK {
			t.Errorf("P12.4: what was refuted: %v, %v in %v", holds, e, structure)
		}
	}
}

// TestNotRefuted: of formulas that have a model no certificate is taken, whatever lines it has.
func TestNotRefuted(t *testing.T) {
	proved(13, 60, func(m maker, l []api.Term, c []api.Line) {
		structure := m.model()
		held := slices.Clone(l)
		for i := range held {
			if holds, _ := model.Holds(sigOf(), structure, held[i:i+1]); !holds {
				held[i] = not(held[i])
			}
		}
		if holds, e := model.Holds(sigOf(), structure, held); !holds {
			t.Fatalf("%v: %v", texts(held), e)
		}
		for range 30 {
			if n, e := cert.Check(sigOf(), held, m.changed(c)); e == api.OK {
				t.Fatalf("P12.4: refuted in %d lines, and true in %v: %v", n, structure, texts(held))
			}
		}
	})
}

func texts(l []api.Term) []string {
	var out []string
	for _, x := range l {
		out = append(out, term.Text(x))
	}
	return out
}

// TestLinesHold: each line that is taken says what is true in every structure; one that follows, where all ahead is.
func TestLinesHold(t *testing.T) {
	kinds := map[int]int{}
	proved(14, 70, func(m maker, l []api.Term, c []api.Line) {
		for range 50 {
			c := m.changed(c)
			i := m.r.Intn(len(c))
			var have [][]api.Lit
			for _, x := range c[:i] {
				have = append(have, x.Clause)
			}
			got, e := cert.Line(sigOf(), l, have, c[i])
			if (e == api.OK) != plainLine(sigOf(), l, have, c[i]) {
				t.Fatalf("P12.1: %d %s: %v", c[i].Kind, text(c[i].Clause), e)
			}
			if e != api.OK || c[i].Kind == api.LineInput {
				continue
			}
			kinds[c[i].Kind]++
			for range 10 {
				structure := m.model()
				if !m.holds(t, structure, got) && (c[i].Kind != api.LineRup || m.allHold(t, structure, have)) {
					t.Fatalf("P12.4: %d %s is false in %v", c[i].Kind, text(got), structure)
				}
			}
		}
	})
	for kind := api.LineTaut; kind <= api.LineRup; kind++ {
		if kinds[kind] < 10 {
			t.Errorf("only %d lines of kind %d", kinds[kind], kind)
		}
	}
}

// holds tells whether a literal of c is true.
func (m maker) holds(t *testing.T, structure api.Model, c []api.Lit) bool {
	t.Helper()
	for _, l := range c {
		holds, e := model.Holds(sigOf(), structure, terms(l.Atom))
		if e != api.OK {
			t.Fatalf("%s: %v", term.Text(l.Atom), e)
		}
		if holds != l.Neg {
			return true
		}
	}
	return false
}

func (m maker) allHold(t *testing.T, structure api.Model, have [][]api.Lit) bool {
	return !slices.ContainsFunc(have, func(c []api.Lit) bool { return !m.holds(t, structure, c) })
}
