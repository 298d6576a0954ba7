package match_test

import (
	"math/rand"
	"reflect"
	"slices"
	"testing"

	"avow/api"
	"avow/match"
	"avow/term"
)

// garbage tells t with something in each field that its operator doesn't name, and spare room behind its lists.
func garbage(t api.Term) api.Term {
	out := api.Term{Op: t.Op, Name: "junk", Sort: 77, N: "junk", Vars: []api.Bound{bound("junk", 5)}, Pat: terms(variable("junk"))}
	switch t.Op {
	case api.TNum:
		out.N = t.N
	case api.TApp:
		out.Name = t.Name
	case api.TVar:
		out.Name, out.Sort = t.Name, t.Sort
	case api.TAll:
		out.Vars = append(slices.Clone(t.Vars), bound("spare", 6))[:len(t.Vars)]
		out.Pat = withSpare(t.Pat)
	}
	out.L = withSpare(t.L)
	return out
}

func withSpare(l []api.Term) []api.Term {
	out := make([]api.Term, 0, len(l)+2)
	for _, x := range l {
		out = append(out, garbage(x))
	}
	return append(out, variable("spare"), op(-5, app("f")))[:len(l)]
}

// whole tells l with all fields and the spare room behind its lists, in memory of its own.
func whole(l []api.Term) []api.Term {
	out := slices.Clone(l[:cap(l)])
	for i := range out {
		out[i].L, out[i].Pat, out[i].Vars = whole(out[i].L), whole(out[i].Pat), slices.Clone(out[i].Vars[:cap(out[i].Vars)])
	}
	return out
}

// scribble overwrites all that hangs on l, the spare room included.
func scribble(l []api.Term) {
	l = l[:cap(l)]
	for i := range l {
		scribble(l[i].L)
		scribble(l[i].Pat)
		l[i] = api.Term{Op: api.TVar, Name: "scribbled"}
	}
}

// asked tells many things to ask, of which something is found.
func asked(each func(all api.Term, ground []api.Term, eq []api.Lit)) {
	for i := range 300 {
		m := maker{rand.New(rand.NewSource(int64(i)))}
		ground := m.terms(6, 3)
		eq := m.lits(ground, 4)
		each(m.all(ground, eq), ground, eq)
	}
}

// TestSameAgain: the same again for the same, also in other memory, with other things in fields that say nothing; and what is handed in stays as it is.
func TestSameAgain(t *testing.T) {
	asked(func(all api.Term, ground []api.Term, eq []api.Lit) {
		want, err := match.Find(all, ground, eq)
		all, ground = garbage(all), withSpare(ground)
		atoms := []api.Term{}
		for _, l := range eq {
			atoms = append(atoms, garbage(l.Atom))
		}
		given := make([]api.Lit, 0, len(eq)+1)
		for i, l := range eq {
			given = append(given, api.Lit{Neg: l.Neg, Atom: atoms[i]})
		}
		given = append(given, is(app("spare"), app("room")))[:len(eq)]
		before := [][]api.Term{whole(terms(all)), whole(ground), whole(atoms)}
		for range 3 {
			got, e := match.Find(all, ground, given)
			if e != err || !reflect.DeepEqual(got, want) {
				t.Fatalf("P11.1: %s: %s, then %s", askedOf(all, ground, eq), words(want), words(got))
			}
		}
		spare := given[:len(eq)+1][len(eq)]
		if !reflect.DeepEqual(before, [][]api.Term{whole(terms(all)), whole(ground), whole(atoms)}) || !reflect.DeepEqual(spare, is(app("spare"), app("room"))) {
			t.Fatalf("P11.1: %s: it was changed", askedOf(all, ground, eq))
		}
	})
}

// TestNewMemory: no two lists of an answer share memory, nor any with what was handed in.
func TestNewMemory(t *testing.T) {
	asked(func(all api.Term, ground []api.Term, eq []api.Lit) {
		got, _ := match.Find(all, ground, eq)
		again, _ := match.Find(all, ground, eq)
		before := whole(ground)
		for i := range got {
			for place := range got[i] {
				scribble(got[i][place].L)
				got[i][place] = api.Term{}
				for k := i; k < len(got); k++ {
					for p := range got[k] {
						if (k > i || p > place) && !reflect.DeepEqual(got[k][p], again[k][p]) {
							t.Fatalf("P11.1: %s: lists share memory", askedOf(all, ground, eq))
						}
					}
				}
			}
			scribble(got[i])
		}
		if !reflect.DeepEqual(before, whole(ground)) {
			t.Fatalf("P11.1: %s: an answer shares memory with ground", askedOf(all, ground, eq))
		}
		scribble(ground)
		scribble(all.Pat)
		for _, l := range eq {
			scribble(l.Atom.L)
		}
		for _, l := range again {
			for _, x := range l {
				if !term.Ground(x) {
					t.Fatal("P11.1: what was handed in is kept")
				}
			}
		}
	})
}

// TestFieldsOfAnswers: fields that an operator doesn't name are zero.
func TestFieldsOfAnswers(t *testing.T) {
	inner := app("k", numeral("1"), yes(), op(api.TIte, app("p"), op(99), app("a")))
	got, err := match.Find(all(1, app("f", variable("x"))), terms(garbage(app("f", inner))), nil)
	if err != api.OK || !reflect.DeepEqual(got, [][]api.Term{{inner}}) {
		t.Errorf("P11.1: %#v", got)
	}
}

// TestSharedLists: of terms whose lists are shared each stands there as often as it does.
func TestSharedLists(t *testing.T) {
	x := variable("x")
	ground := terms(app("f", doubled("d", 7, app("a"))))
	finds(t, "doubled", all(1, app("d", x, x)), ground, nil, words([][]api.Term{{app("a")}, {doubled("d", 1, app("a"))}, {doubled("d", 2, app("a"))}, {doubled("d", 3, app("a"))}, {doubled("d", 4, app("a"))}, {doubled("d", 5, app("a"))}, {doubled("d", 6, app("a"))}}))
	refuses(t, "doubled once more", all(1, app("d", x, x)), terms(app("f", doubled("d", 8, app("a")))))
	finds(t, "a doubled pattern", all(1, doubled("d", 14, x)), terms(app("a"), app("b")), lits(is(app("d", app("a"), app("a")), app("b")), is(app("d", app("b"), app("b")), app("a"))), "a; b")
}

// TestEnds: calls end, of lists that contain themselves, and of terms deeper than anything is promised of.
func TestEnds(t *testing.T) {
	a, x := app("a"), variable("x")
	for _, h := range []api.Term{endless("f", 1), endless("f", 3), app("f", a, endless("g", 2)), chain("f", 200000, a), doubled("f", 200000, a), chain("f", 1<<16, a), chain("f", 1<<16+1, a)} {
		refuses(t, "a pattern", all(1, app("f", x, h)), terms(a))
		refuses(t, "a ground term", all(1, app("f", x)), terms(h))
		body := all(1, app("f", x))
		body.L[0] = h
		finds(t, "a body", body, terms(app("f", a)), nil, "a")
		finds(t, "an equation", all(1, app("f", x)), terms(app("f", a), app("b")), lits(is(a, h), is(h, app("b")), is(h, h), api.Lit{Atom: h}), "a")
	}
}
