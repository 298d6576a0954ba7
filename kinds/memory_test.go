package kinds_test

import (
	"reflect"
	"slices"
	"testing"

	"avow/api"
)

// everyPart has each kind of declaration, of expression and of list.
const everyPart = "ref x := 1;; let p (a : int) : Pure int is a;; let rec f (a : {v : int | v > 0}) (b : {w : int | a > 0 && w > 1}) : All {v : int | v > a} requires a > b ensures r. r > old x decreases a, b + p(1) is (let c = f(a, b) in x := c; try f(1 + 2, !x) with e -> (if a = b then -e else 7));; ref y := 1;; let g (a : int) : All int is f(a, 1);;"

// room tells all lists with the room behind them.
func room(l []api.Decl) []any {
	out := []any{slices.Clone(l[:cap(l)])}
	for _, d := range l {
		out = append(out, slices.Clone(d.Params[:cap(d.Params)]))
		for _, p := range d.Params {
			out = append(out, roomOf(p.T.R)...)
		}
		for _, each := range [][]api.Expr{d.Requires, d.T.R, d.Ensures, d.Measure, d.Body.L} {
			out = append(out, roomOf(each)...)
		}
	}
	return out
}

func roomOf(l []api.Expr) []any {
	out := []any{slices.Clone(l[:cap(l)])}
	for _, e := range l {
		out = append(out, roomOf(e.L)...)
	}
	return out
}

// TestNothingIsChangedOrKept asks with room behind all lists, of what is right and of what isn't, twice.
func TestNothingIsChangedOrKept(t *testing.T) {
	for _, text := range []string{everyPart, everyPart + "let h (a : int) : Pure int is let b = a in (let c = true in c) + b;;", everyPart + "let h : Pure int is !x;;"} {
		l := cloned(resolved(t, text))
		before := room(l)
		d := l[len(l)-1]
		binders := append([]int{api.TyInt}, 7, 8, 9)[:1]
		firstCheck, firstEffect := check(t, l), effectOf(l, d.Body)
		firstKind, firstWrong := kindOf(t, l, 3, d.Body, binders)
		for range 2 {
			kind, wrong := kindOf(t, l, 3, d.Body, binders)
			if again := check(t, l); !reflect.DeepEqual(again, firstCheck) || kind != firstKind || !reflect.DeepEqual(wrong, firstWrong) || effectOf(l, d.Body) != firstEffect {
				t.Errorf("rule 8: %s: %v, %d, %v", text, again, kind, wrong)
			}
			if !reflect.DeepEqual(room(l), before) || !slices.Equal(binders[:4], []int{api.TyInt, 7, 8, 9}) {
				t.Errorf("rule 3: %s: what is handed in is changed", text)
			}
		}
	}
}

// TestErrorsAreNew holds that an error that was told can be changed.
func TestErrorsAreNew(t *testing.T) {
	l := resolved(t, "let f : Pure int is true;;")
	first := check(t, l)
	_, firstOfKind := kindOf(t, l, 0, api.Expr{Op: api.ENot, L: []api.Expr{{Op: api.ENum, At: 9}}}, nil)
	wanted, wantedOfKind := *first, *firstOfKind
	first.At, firstOfKind.At = -1, -1
	if again := check(t, l); *again != wanted {
		t.Errorf("rule 3: %v, wanted %v", again, &wanted)
	}
	if _, again := kindOf(t, l, 0, api.Expr{Op: api.ENot, L: []api.Expr{{Op: api.ENum, At: 9}}}, nil); *again != wantedOfKind {
		t.Errorf("rule 3: %v, wanted %v", again, &wantedOfKind)
	}
}
