package cert_test

import (
	"math/rand"
	"slices"
	"strconv"

	"avow/api"
	"avow/cert"
	"avow/euf"
	"avow/lia"
	"avow/sat"
	"avow/term"
)

// prover makes certificates: it asks for truths of all formulas, and adds a line for each that can't be, until there are none.
type prover struct {
	lines   []api.Line
	atoms   []api.Term
	numbers map[string]int // by Texts
	clauses [][]int
}

// add adds a line, and what is known of its new atoms.
func (p *prover) add(x api.Line, clause []api.Lit) {
	p.lines = append(p.lines, x)
	var out []int
	for _, l := range clause {
		n := p.number(l.Atom)
		if l.Neg {
			n = -n
		}
		out = append(out, n)
	}
	p.clauses = append(p.clauses, out)
}

func (p *prover) number(t api.Term) int {
	name := term.Text(t)
	if n, ok := p.numbers[name]; ok {
		return n
	}
	p.atoms = append(p.atoms, t)
	n := len(p.atoms)
	p.numbers[name] = n
	p.know(t)
	return n
}

func isBool(t api.Term) bool {
	sort, _ := term.Check(sigOf(), t)
	return sort == bools
}

// know adds the lines that tell what a formula is by its connective; of numbers that are equal, or not; of choices; of all.
func (p *prover) know(t api.Term) {
	switch {
	case t.Op >= api.TTrue && t.Op <= api.TIff || (t.Op == api.TIte || t.Op == api.TEq) && isBool(t.L[1]):
		p.connective(t)
		return
	case t.Op == api.TAll:
		for _, by := range terms(app("o"), app("u"), app("g", app("o"))) {
			made, _ := term.Inst(t, terms(by))
			p.add(inst(lits(neg(t), pos(made)), by), lits(neg(t), pos(made)))
		}
		return
	}
	p.choices(t)
	if t.Op != api.TEq {
		return
	}
	if sort, _ := term.Check(sigOf(), t.L[0]); sort == ints {
		a, b := t.L[0], t.L[1]
		c := lits(pos(t), pos(less(a, b)), pos(less(b, a)))
		p.add(three(a, b, c...), c)
	}
}

func (p *prover) connective(t api.Term) {
	for bits := range 1 << len(t.L) {
		var others []api.Lit
		for i, x := range t.L {
			others = append(others, api.Lit{Neg: bits>>i&1 > 0, Atom: x})
		}
		c := append(lits(api.Lit{Neg: !worthBy(t.Op, bits, len(t.L)), Atom: t}), others...)
		p.add(taut(c...), c)
	}
}

// worthBy tells what a connective is of so many operands that are these bits.
func worthBy(op, bits, n int) bool {
	at := func(i int) bool { return bits>>i&1 > 0 }
	switch op {
	case api.TNot:
		return !at(0)
	case api.TAnd:
		return bits == 1<<n-1
	case api.TOr:
		return bits > 0
	case api.TImp:
		return !at(0) || at(1)
	case api.TIff, api.TEq:
		return at(0) == at(1)
	case api.TIte:
		return at(0) && at(1) || !at(0) && at(2)
	}
	return op == api.TTrue
}

func (p *prover) choices(t api.Term) {
	for _, x := range t.L {
		p.choices(x)
		if x.Op == api.TIte && !isBool(x) {
			for i, neg := range []bool{true, false} {
				c := lits(api.Lit{Neg: neg, Atom: x.L[0]}, pos(same(x, x.L[i+1])))
				p.add(choice(x, c...), c)
			}
		}
	}
}

// refute tells a certificate of l, and true; false, if none was found.
func refute(l []api.Term) ([]api.Line, bool) {
	p := &prover{numbers: map[string]int{}}
	for i, t := range l {
		p.add(input(i), lits(pos(t)))
	}
	for range 12 {
		if len(p.lines) > 120 {
			return nil, false
		}
		verdict, truths, trace, _ := sat.Solve(len(p.atoms), p.clauses, 1000000)
		switch {
		case verdict == api.Unsat:
			for _, c := range trace {
				p.lines = append(p.lines, follows(p.literals(c)...))
			}
			return p.lines, true
		case verdict != api.Sat || !p.forbid(truths):
			return nil, false
		}
	}
	return nil, false
}

func (p *prover) literals(c []int) []api.Lit {
	var out []api.Lit
	for _, x := range c {
		out = append(out, api.Lit{Neg: x < 0, Atom: p.atoms[max(x, -x)-1]})
	}
	return out
}

// forbid adds a line that says that these truths can't be; false, if they may.
func (p *prover) forbid(truths []bool) bool {
	var c []api.Lit
	for i, t := range p.atoms {
		if t.Op == api.TApp || t.Op == api.TLe || t.Op == api.TLt || t.Op == api.TEq && !isBool(t.L[0]) {
			c = append(c, api.Lit{Neg: truths[i], Atom: t})
		}
	}
	if euf.Valid(c) {
		c = fewer(c, euf.Valid)
		p.add(equality(c...), c)
		return true
	}
	refuted := func(c []api.Lit) bool {
		rows, _ := cert.Rows(c)
		verdict, _, _, _ := lia.Solve(rows, 10000)
		return verdict == api.Unsat
	}
	if !refuted(c) {
		return false
	}
	c = fewer(c, refuted)
	rows, _ := cert.Rows(c)
	_, _, f, _ := lia.Solve(rows, 10000)
	p.add(arithmetic(f, c...), c)
	return true
}

// fewer leaves literals out for as long as a clause holds.
func fewer(c []api.Lit, holds func([]api.Lit) bool) []api.Lit {
	for i := len(c) - 1; i >= 0; i-- {
		if less := slices.Delete(slices.Clone(c), i, i+1); holds(less) {
			c = less
		}
	}
	return c
}

// proved tells so many lists of formulas, and a certificate of each.
func proved(seed int64, n int, each func(m maker, l []api.Term, c []api.Line)) {
	m := maker{rand.New(rand.NewSource(seed))}
	for n > 0 {
		l := m.formulas()
		if c, ok := refute(l); ok {
			each(m, l, c)
			n--
		}
	}
}

// maker makes formulas, models, and lines that may be wrong.
type maker struct{ r *rand.Rand }

func (m maker) of(l ...api.Term) api.Term { return l[m.r.Intn(len(l))] }

func (m maker) number(deep int) api.Term {
	if deep <= 0 || m.r.Intn(3) == 0 {
		return m.of(app("a"), app("b"), app("c"), app("a"), numeral("0"), numeral("1"), numeral("-2"))
	}
	in := func() api.Term { return m.number(deep - 1) }
	switch m.r.Intn(7) {
	case 0:
		return op(api.TAdd, in(), in())
	case 1:
		return op(api.TSub, in(), in())
	case 2:
		return op(api.TNeg, in())
	case 3:
		return op(api.TMul, m.of(numeral("2"), numeral("-1"), numeral("3")), in())
	case 4:
		return ite(m.atom(0), in(), in())
	case 5:
		return app("f", in())
	}
	return app("k", m.object(1), m.of(app("p"), app("q")))
}

func (m maker) object(deep int) api.Term {
	if deep <= 0 || m.r.Intn(2) == 0 {
		return m.of(app("o"), app("u"))
	}
	if m.r.Intn(5) == 0 {
		return ite(m.atom(0), m.object(deep-1), m.object(deep-1))
	}
	return app("g", m.object(deep-1))
}

func (m maker) atom(deep int) api.Term {
	switch m.r.Intn(8) {
	case 0, 1:
		return atMost(m.number(deep), m.number(deep))
	case 2:
		return less(m.number(deep), m.number(deep))
	case 3:
		return same(m.number(deep), m.number(deep))
	case 4:
		return same(m.object(deep), m.object(deep))
	case 5:
		return app("h", m.object(deep))
	}
	return m.of(app("p"), app("q"), app("r"))
}

// all tells a formula for all objects.
func (m maker) all() api.Term {
	y := variable("y", objs)
	bodies := terms(app("h", y), op(api.TOr, not(app("h", y)), app("p")), same(app("g", y), y), atMost(numeral("1"), app("k", y, app("p"))), op(api.TImp, app("h", y), app("h", app("g", y))), same(y, app("o")))
	return all("y", m.of(bodies...), m.of(app("h", y), app("g", y)))
}

func (m maker) formula(deep int) api.Term {
	if deep <= 0 {
		return m.atom(2)
	}
	in := func() api.Term { return m.formula(deep - 1 - m.r.Intn(2)) }
	switch m.r.Intn(11) {
	case 0, 1:
		return not(in())
	case 2:
		return op(api.TAnd, in(), in(), in())
	case 3:
		return op(api.TOr, in(), in())
	case 4:
		return op(api.TImp, in(), in())
	case 5:
		return op(api.TIff, in(), in())
	case 6:
		return same(in(), in())
	case 7:
		return ite(in(), in(), in())
	case 8:
		return m.all()
	case 9:
		return m.of(yes(), no(), op(api.TAnd), op(api.TOr))
	}
	return m.atom(2)
}

func (m maker) formulas() []api.Term {
	var out []api.Term
	for range 2 + m.r.Intn(6) {
		out = append(out, m.formula(m.r.Intn(3)))
	}
	return out
}

// value tells a value's text.
func (m maker) value(sort, objects int) string {
	switch sort {
	case ints:
		return strconv.Itoa(m.r.Intn(7) - 3)
	case bools:
		return strconv.FormatBool(m.r.Intn(2) == 0)
	}
	return "#" + strconv.Itoa(m.r.Intn(objects))
}

// model tells a structure of all functions.
func (m maker) model() api.Model {
	out := api.Model{Objs: 1 + m.r.Intn(3)}
	seen := map[string]bool{"odd": true}
	for _, f := range sigOf() {
		if seen[f.Name] {
			continue
		}
		seen[f.Name] = true
		t := api.Table{Name: f.Name, Else: m.value(f.Out, out.Objs)}
		for range 5 * len(f.Args) {
			r := api.Row{Out: m.value(f.Out, out.Objs)}
			for _, sort := range f.Args {
				r.Args = append(r.Args, m.value(sort, out.Objs))
			}
			t.Rows = append(t.Rows, r)
		}
		out.Tables = append(out.Tables, t)
	}
	return out
}
