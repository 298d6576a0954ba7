package cnf

import (
	"slices"
	"strconv"
	"strings"
	"testing"

	"avow/api"
	"avow/term"
)

const (
	ints  = api.SortInt
	bools = api.SortBool
	objs  = api.SortObj
)

func numeral(n string) api.Term { return api.Term{Op: api.TNum, N: n} }

func op(o int, l ...api.Term) api.Term { return api.Term{Op: o, L: l} }

func not(t api.Term) api.Term { return op(api.TNot, t) }

func and(l ...api.Term) api.Term { return op(api.TAnd, l...) }

func or(l ...api.Term) api.Term { return op(api.TOr, l...) }

func same(a, b api.Term) api.Term { return op(api.TEq, a, b) }

func ite(a, b, c api.Term) api.Term { return op(api.TIte, a, b, c) }

func app(name string, l ...api.Term) api.Term { return api.Term{Op: api.TApp, Name: name, L: l} }

func variable(name string, sort int) api.Term {
	return api.Term{Op: api.TVar, Name: name, Sort: sort}
}

// all tells a TAll over numbers, with a pattern for each of its variables.
func all(body api.Term, names ...string) api.Term {
	out := api.Term{Op: api.TAll, L: []api.Term{body}}
	for _, name := range names {
		out.Vars = append(out.Vars, api.Bound{Name: name, Sort: ints})
		out.Pat = append(out.Pat, app("f", variable(name, ints)))
	}
	return out
}

func sigOf() []api.Fun {
	out := []api.Fun{
		{Name: "a", Out: ints}, {Name: "b", Out: ints}, {Name: "p", Out: bools}, {Name: "q", Out: bools}, {Name: "r", Out: bools}, {Name: "o", Out: objs}, {Name: "u", Out: objs},
		{Name: "f", Args: []int{ints}, Out: ints}, {Name: "g", Args: []int{objs}, Out: objs}, {Name: "h", Args: []int{ints, bools}, Out: bools},
	}
	for i := range 300 {
		out = append(out, api.Fun{Name: "p" + strconv.Itoa(i), Out: bools})
	}
	return out
}

// prop tells one of many atoms.
func prop(i int) api.Term { return app("p" + strconv.Itoa(i)) }

func texts(l []api.Term) []string {
	var out []string
	for _, t := range l {
		out = append(out, term.Text(t))
	}
	return out
}

func words(l []api.Term) string { return strings.Join(texts(l), " ") }

// garbage tells t with something in each field that its operator doesn't name, and spare room behind its lists.
func garbage(t api.Term) api.Term {
	out := api.Term{Op: t.Op, Name: "junk", Sort: 77, N: "junk", Vars: []api.Bound{{Name: "junk", Sort: 5}}, Pat: []api.Term{all(app("junk"), "x")}}
	switch t.Op {
	case api.TNum:
		out.N = t.N
	case api.TApp:
		out.Name = t.Name
	case api.TVar:
		out.Name, out.Sort = t.Name, t.Sort
	case api.TAll:
		out.Vars = append(slices.Clone(t.Vars), api.Bound{Name: "spare"})[:len(t.Vars)]
		out.Pat = garbageList(t.Pat)
	}
	out.L = garbageList(t.L)
	return out
}

func garbageList(l []api.Term) []api.Term {
	out := make([]api.Term, 0, len(l)+1)
	for _, t := range l {
		out = append(out, garbage(t))
	}
	return append(out, all(app("spare"), "x"))[:len(l)]
}

// whole tells t with all its fields and the spare room behind its lists, in memory of its own.
func whole(t api.Term) api.Term {
	t.L, t.Pat, t.Vars = wholeList(t.L), wholeList(t.Pat), slices.Clone(t.Vars[:cap(t.Vars)])
	return t
}

func wholeList(l []api.Term) []api.Term {
	var out []api.Term
	for _, t := range l[:cap(l)] {
		out = append(out, whole(t))
	}
	return out
}

// scribble overwrites all of l and what hangs on it, the spare room too, and tells the first of two lists that share memory.
func scribble(t *testing.T, l []api.Term, seen map[any]bool) {
	t.Helper()
	l = l[:cap(l)]
	for i := range l {
		if seen[&l[i]] {
			t.Fatal("two lists of an answer share memory")
		}
		seen[&l[i]] = true
		vars := l[i].Vars[:cap(l[i].Vars)]
		for j := range vars {
			if seen[&vars[j]] {
				t.Fatal("two lists of variables of an answer share memory")
			}
			seen[&vars[j]] = true
			vars[j] = api.Bound{Name: "scribble", Sort: -1}
		}
		scribble(t, l[i].L, seen)
		scribble(t, l[i].Pat, seen)
		l[i].Op, l[i].Name = -1, "scribble"
	}
}

// scribbleClauses does likewise with lists of numbers.
func scribbleClauses(t *testing.T, l [][]int, seen map[any]bool) {
	t.Helper()
	l = l[:cap(l)]
	for i := range l {
		clause := l[i][:cap(l[i])]
		for j := range clause {
			if seen[&clause[j]] {
				t.Fatal("two clauses share memory")
			}
			seen[&clause[j]] = true
			clause[j] = -77
		}
	}
}

// chain tells last under so many operators.
func chain(o, so int, last api.Term) api.Term {
	for range so {
		last = op(o, last)
	}
	return last
}

// doubled tells a term so often joined with itself: small to hold, great to go through.
func doubled(o, so int, t api.Term) api.Term {
	for range so {
		t = op(o, t, t)
	}
	return t
}

// endless tells a term whose operands, so many of them, are a list that contains itself in each of them.
func endless(o, so int) api.Term {
	l := make([]api.Term, so)
	for i := range l {
		l[i] = api.Term{Op: o, Name: "f", L: l, Pat: l, Vars: []api.Bound{{Name: "x", Sort: ints}}}
	}
	return l[0]
}

// holds tells what the connectives make of the atoms' truths, by the words of chapters 4 and 5; false, false, if an atom isn't told.
func holds(t api.Term, truths map[string]bool) (bool, bool) {
	if slowAtom(t) {
		v, ok := truths[term.Text(t)]
		return v, ok
	}
	var l []bool
	for _, x := range t.L {
		v, ok := holds(x, truths)
		if !ok {
			return false, false
		}
		l = append(l, v)
	}
	switch t.Op {
	case api.TTrue, api.TFalse:
		return t.Op == api.TTrue, true
	case api.TNot:
		return !l[0], true
	case api.TAnd:
		return !slices.Contains(l, false), true
	case api.TOr:
		return slices.Contains(l, true), true
	case api.TImp:
		return !l[0] || l[1], true
	case api.TIte:
		return l[0] && l[1] || !l[0] && l[2], true
	}
	return l[0] == l[1], true
}

// slowAtom tells whether t is an atom, where a formula stands.
func slowAtom(t api.Term) bool {
	switch t.Op {
	case api.TTrue, api.TFalse, api.TNot, api.TAnd, api.TOr, api.TImp, api.TIff:
		return false
	case api.TEq, api.TIte:
		return len(t.L) == 0 || !slowShape(t.L[len(t.L)-1])
	}
	return true
}

// slowShape tells whether t is told as a formula by its shape.
func slowShape(t api.Term) bool {
	switch t.Op {
	case api.TTrue, api.TFalse, api.TNot, api.TAnd, api.TOr, api.TImp, api.TIff, api.TEq, api.TLe, api.TLt, api.TAll:
		return true
	case api.TIte:
		return len(t.L) > 0 && slowShape(t.L[len(t.L)-1])
	}
	return false
}

// slowAtoms tells the same as Atoms, by the words of the promise.
func slowAtoms(out []api.Term, l ...api.Term) []api.Term {
	for _, t := range l {
		if !slowAtom(t) {
			out = slowAtoms(out, t.L...)
		} else if !slices.ContainsFunc(out, func(x api.Term) bool { return term.Same(x, t) }) {
			out = append(out, t)
		}
	}
	return out
}
