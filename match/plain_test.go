package match_test

import (
	"slices"
	"strings"
	"testing"

	"avow/api"
	"avow/euf"
	"avow/match"
	"avow/term"
)

// subtermsOf tells all that stands in ground, each once.
func subtermsOf(ground []api.Term) []api.Term {
	var out []api.Term
	var walk func(t api.Term)
	walk = func(t api.Term) {
		for _, x := range t.L {
			walk(x)
		}
		if !slices.ContainsFunc(out, func(x api.Term) bool { return term.Same(x, t) }) {
			out = append(out, t)
		}
	}
	for _, t := range ground {
		walk(t)
	}
	return out
}

// mayBe tells whether a term is of a sort by its shape.
func mayBe(t api.Term, sort int) bool {
	switch t.Op {
	case api.TNum, api.TAdd, api.TSub, api.TNeg, api.TMul:
		return sort == ints
	case api.TTrue, api.TFalse, api.TNot, api.TAnd, api.TOr, api.TImp, api.TIff, api.TEq, api.TLe, api.TLt:
		return sort == bools
	case api.TIte:
		return len(t.L) > 0 && mayBe(t.L[len(t.L)-1], sort)
	}
	return t.Op == api.TApp
}

// replaced tells a pattern with terms in place of the variables.
func replaced(p api.Term, vars []api.Bound, l []api.Term) api.Term {
	if p.Op == api.TVar {
		for i, v := range vars {
			if v.Name == p.Name {
				return l[i]
			}
		}
	}
	out := p
	out.L = nil
	for _, x := range p.L {
		out.L = append(out.L, replaced(x, vars, l))
	}
	return out
}

// equalsBy tells an Euf that has the equations of eq.
func equalsBy(eq []api.Lit) *euf.Euf {
	e := euf.New()
	for _, l := range eq {
		if !l.Neg && l.Atom.Op == api.TEq {
			e.Assert(l)
		}
	}
	return e
}

func equalLists(e *euf.Euf, a, b []api.Term) bool { return slices.EqualFunc(a, b, e.Equal) }

// textFirst orders terms by their Texts: by length, then bytes.
func textFirst(a, b api.Term) int {
	x, y := term.Text(a), term.Text(b)
	if len(x) != len(y) {
		return len(x) - len(y)
	}
	return strings.Compare(x, y)
}

// plain tells what Find is to find, by trying all lists of subterms.
func plain(all api.Term, ground []api.Term, eq []api.Lit) [][]api.Term {
	e := equalsBy(eq)
	subterms := subtermsOf(ground)
	var out [][]api.Term
	try := func(l []api.Term) {
		for _, p := range all.Pat {
			made := replaced(p, all.Vars, l)
			if !slices.ContainsFunc(subterms, func(x api.Term) bool { return e.Equal(made, x) }) {
				return
			}
		}
		var told []api.Term
		for place, t := range l {
			best := t
			for _, x := range subterms {
				if mayBe(x, all.Vars[place].Sort) && e.Equal(x, t) && textFirst(x, best) < 0 {
					best = x
				}
			}
			told = append(told, best)
		}
		if !slices.ContainsFunc(out, func(x []api.Term) bool { return equalLists(e, x, told) }) {
			out = append(out, told)
		}
	}
	var from func(l []api.Term)
	from = func(l []api.Term) {
		if len(l) == len(all.Vars) {
			try(l)
			return
		}
		for _, x := range subterms {
			if mayBe(x, all.Vars[len(l)].Sort) {
				from(append(slices.Clone(l), x))
			}
		}
	}
	from(nil)
	slices.SortStableFunc(out, func(a, b []api.Term) int { return slices.CompareFunc(a, b, textFirst) })
	return out
}

// litWords tells literals as a text.
func litWords(l []api.Lit) string {
	var out []string
	for _, x := range l {
		text := term.Text(x.Atom)
		if x.Neg {
			text = "not " + text
		}
		out = append(out, text)
	}
	return strings.Join(out, "; ")
}

// askedOf tells what is asked as a text.
func askedOf(all api.Term, ground []api.Term, eq []api.Lit) string {
	return term.Text(all) + " of " + words([][]api.Term{ground}) + " by " + litWords(eq)
}

// holdsPlain holds Find to find what plain does, and tells how many lists.
func holdsPlain(t *testing.T, all api.Term, ground []api.Term, eq []api.Lit) int {
	t.Helper()
	got, err := match.Find(all, ground, eq)
	want := plain(all, ground, eq)
	// Of terms of one Text no test can tell by Texts which was told: so they are asked themselves, too.
	e := equalsBy(eq)
	if err != api.OK || words(got) != words(want) || !slices.EqualFunc(got, want, func(a, b []api.Term) bool { return equalLists(e, a, b) }) {
		t.Fatalf("P11.1: %s: %s, %v; wanted %s", askedOf(all, ground, eq), words(got), err, words(want))
	}
	return len(got)
}
