package norm_test

import (
	"reflect"
	"slices"
	"testing"

	"avow/api"
	"avow/norm"
)

// room tells all lists with the room behind them.
func room(l []api.Decl) []any {
	out := []any{slices.Clone(l[:cap(l)])}
	for _, d := range l {
		out = append(out, slices.Clone(d.Params[:cap(d.Params)]))
		for _, p := range d.Params {
			out = append(out, roomOf(p.T.R)...)
		}
		for _, each := range [][]api.Expr{d.Requires, d.T.R, d.Ensures, d.Measure, d.Body.L} {
			out = append(out, roomOf(each)...)
		}
	}
	return out
}

func roomOf(l []api.Expr) []any {
	out := []any{slices.Clone(l[:cap(l)])}
	for _, e := range l {
		out = append(out, roomOf(e.L)...)
	}
	return out
}

// parts tells all places of a tree's lists in memory, the spare room included.
func parts(e api.Expr) []*api.Expr {
	var out []*api.Expr
	all := e.L[:cap(e.L)]
	for i := range all {
		out = append(out, &all[i])
	}
	for _, o := range e.L {
		out = append(out, parts(o)...)
	}
	return out
}

// kept: expressions whose answers have values, and parts of bodies, more than once.
var kept = []string{"let v = 1 - 4 in x + v + v", "claim(2) + claim(2)", "-3", "let v = -3 in v", "claim(-2) + claim(-2)", "x + -(1 + y)", "minus(-1, claim(-1))", "if b then st() else on(-1)", "let v = -1 in try v with e -> e + v", "twice(3)", "pick(-1, true, 1)", "c := -1; !c", "let v = -1 in (let w = x in v + w) + v"}

// TestNothingIsChangedOrKept asks with room behind all lists, twice.
func TestNothingIsChangedOrKept(t *testing.T) {
	for _, text := range kept {
		own, e := over(t, "int", text)
		l := cloned(own)
		e = clonedExprs([]api.Expr{e})[0]
		before, beforeOf := room(l), roomOf([]api.Expr{e})
		first, err := reduced(t, l, e, 100)
		for range 2 {
			again, errAgain := reduced(t, l, e, 100)
			if err != api.OK || errAgain != err || !equal(first, again) || !norm.Same(e, e) || norm.Value(e) != (text == "-3") {
				t.Errorf("rule 8: %s: %v, %v", text, err, errAgain)
			}
			if !reflect.DeepEqual(room(l), before) || !reflect.DeepEqual(roomOf([]api.Expr{e}), beforeOf) {
				t.Errorf("rule 3: %s: what is handed in is changed", text)
			}
		}
		reduced(t, l, e, 0)
		if !reflect.DeepEqual(room(l), before) || !reflect.DeepEqual(roomOf([]api.Expr{e}), beforeOf) {
			t.Errorf("rule 3: %s: what is handed in is changed", text)
		}
	}
}

// widen gives each list, the empty ones too, spare room.
func widen(e *api.Expr) {
	e.L = append(slices.Clone(e.L), api.Expr{}, api.Expr{})[:len(e.L)]
	for i := range e.L {
		widen(&e.L[i])
	}
}

// TestAnswersAreNewMemory holds that no two lists of an answer share memory, nor one of it and one that is handed in.
func TestAnswersAreNewMemory(t *testing.T) {
	for _, text := range kept {
		l, e := over(t, "int", text)
		for i := range l {
			widen(&l[i].Body)
		}
		widen(&e)
		got, err := reduced(t, l, e, 100)
		if err != api.OK {
			t.Errorf("P19.1: %s: %v", text, err)
		}
		seen := map[*api.Expr]bool{}
		for _, d := range append(slices.Clone(l), api.Decl{Body: e}) {
			for _, p := range parts(d.Body) {
				seen[p] = true
			}
		}
		for _, p := range parts(got) {
			if seen[p] {
				t.Errorf("rule 3: %s: lists share memory", text)
			}
			seen[p] = true
		}
	}
}
