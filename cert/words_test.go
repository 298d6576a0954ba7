package cert_test

import (
	"slices"
	"strings"
	"testing"

	"avow/api"
	"avow/cert"
	"avow/term"
)

const (
	ints  = api.SortInt
	bools = api.SortBool
	objs  = api.SortObj
)

// sigOf tells the functions of the tests; of a, told twice, the first one counts.
func sigOf() []api.Fun {
	return []api.Fun{
		{Name: "a", Out: ints}, {Name: "b", Out: ints}, {Name: "c", Out: ints},
		{Name: "p", Out: bools}, {Name: "q", Out: bools}, {Name: "r", Out: bools},
		{Name: "o", Out: objs}, {Name: "u", Out: objs},
		{Name: "f", Args: []int{ints}, Out: ints},
		{Name: "g", Args: []int{objs}, Out: objs},
		{Name: "h", Args: []int{objs}, Out: bools},
		{Name: "k", Args: []int{objs, bools}, Out: ints},
		{Name: "a", Out: bools}, {Name: "odd", Out: 9},
	}
}

func op(o int, l ...api.Term) api.Term { return api.Term{Op: o, L: l} }

func numeral(n string) api.Term { return api.Term{Op: api.TNum, N: n} }

func app(name string, l ...api.Term) api.Term { return api.Term{Op: api.TApp, Name: name, L: l} }

func variable(name string, sort int) api.Term { return api.Term{Op: api.TVar, Name: name, Sort: sort} }

func same(a, b api.Term) api.Term { return op(api.TEq, a, b) }

func less(a, b api.Term) api.Term { return op(api.TLt, a, b) }

func atMost(a, b api.Term) api.Term { return op(api.TLe, a, b) }

func not(t api.Term) api.Term { return op(api.TNot, t) }

func ite(a, b, c api.Term) api.Term { return op(api.TIte, a, b, c) }

func yes() api.Term { return op(api.TTrue) }

func no() api.Term { return op(api.TFalse) }

// all tells a formula for all of some variables, x of SortInt and y of SortObj, as far as they are named.
func all(names string, body api.Term, pat ...api.Term) api.Term {
	out := api.Term{Op: api.TAll, Pat: pat, L: terms(body)}
	for _, name := range strings.Fields(names) {
		sort := ints
		if name != "x" {
			sort = objs
		}
		out.Vars = append(out.Vars, api.Bound{Name: name, Sort: sort})
	}
	return out
}

func terms(l ...api.Term) []api.Term { return l }

func pos(t api.Term) api.Lit { return api.Lit{Atom: t} }

func neg(t api.Term) api.Lit { return api.Lit{Neg: true, Atom: t} }

func lits(l ...api.Lit) []api.Lit { return l }

func input(i int) api.Line { return api.Line{Kind: api.LineInput, I: i} }

func taut(c ...api.Lit) api.Line { return api.Line{Kind: api.LineTaut, Clause: c} }

func inst(c []api.Lit, l ...api.Term) api.Line {
	return api.Line{Kind: api.LineInst, Clause: c, Terms: l}
}

func equality(c ...api.Lit) api.Line { return api.Line{Kind: api.LineEuf, Clause: c} }

func arithmetic(f api.Farkas, c ...api.Lit) api.Line {
	return api.Line{Kind: api.LineLia, Clause: c, F: f}
}

func sum(by ...string) api.Farkas { return api.Farkas{Sum: by} }

func choice(t api.Term, c ...api.Lit) api.Line {
	return api.Line{Kind: api.LineIte, Clause: c, Terms: terms(t)}
}

func three(a, b api.Term, c ...api.Lit) api.Line {
	return api.Line{Kind: api.LineTri, Clause: c, Terms: terms(a, b)}
}

func follows(c ...api.Lit) api.Line { return api.Line{Kind: api.LineRup, Clause: c} }

// text tells a clause.
func text(c []api.Lit) string {
	var out []string
	for _, l := range c {
		if l.Neg {
			out = append(out, "~"+term.Text(l.Atom))
		} else {
			out = append(out, term.Text(l.Atom))
		}
	}
	return "[" + strings.Join(out, " | ") + "]"
}

// sameClauses tells whether two clauses have the same literals, in order.
func sameClauses(a, b []api.Lit) bool {
	return slices.EqualFunc(a, b, func(x, y api.Lit) bool { return x.Neg == y.Neg && term.Same(x.Atom, y.Atom) })
}

// takes asks Line of x, which is taken.
func takes(t *testing.T, l []api.Term, have [][]api.Lit, x api.Line) {
	t.Helper()
	want := x.Clause
	if x.Kind == api.LineInput {
		want = lits(pos(l[x.I]))
	}
	got, e := cert.Line(sigOf(), l, have, x)
	if e != api.OK || !sameClauses(got, want) {
		t.Errorf("P12.1: %d %s: %s, %v", x.Kind, text(x.Clause), text(got), e)
	}
}

// refuses asks Line of x, which isn't taken.
func refuses(t *testing.T, l []api.Term, have [][]api.Lit, x api.Line) {
	t.Helper()
	if got, e := cert.Line(sigOf(), l, have, x); e != api.ErrCertLine || len(got) != 0 {
		t.Errorf("P12.1: %d %s: taken: %s, %v", x.Kind, text(x.Clause), text(got), e)
	}
}
