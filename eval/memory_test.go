package eval_test

import (
	"reflect"
	"slices"
	"strconv"
	"sync"
	"testing"

	"avow/api"
	"avow/eval"
)

// cloned tells the same in new memory, each list with some spare room behind it.
func cloned(l []api.Decl) []api.Decl {
	out := roomy(l, api.Decl{Name: "spare"})
	for i := range out {
		d := &out[i]
		d.Params = roomy(d.Params, api.Param{Name: "spare"})
		for j := range d.Params {
			d.Params[j].T.R = clonedExprs(d.Params[j].T.R)
		}
		d.T.R, d.Requires, d.Ensures, d.Measure = clonedExprs(d.T.R), clonedExprs(d.Requires), clonedExprs(d.Ensures), clonedExprs(d.Measure)
		d.Body.L = clonedExprs(d.Body.L)
	}
	return out
}

func clonedExprs(l []api.Expr) []api.Expr {
	out := roomy(l, api.Expr{Name: "spare", I: 5})
	for i := range out {
		out[i].L = clonedExprs(out[i].L)
	}
	return out
}

func roomy[T any](l []T, spare T) []T {
	return append(slices.Clone(l), spare, spare)[:len(l)]
}

// room tells all lists with the room behind them.
func room(l []api.Decl) []any {
	out := []any{slices.Clone(l[:cap(l)])}
	for _, d := range l {
		out = append(out, slices.Clone(d.Params[:cap(d.Params)]))
		for _, p := range d.Params {
			out = append(out, roomOf(p.T.R)...)
		}
		for _, each := range [][]api.Expr{d.Requires, d.T.R, d.Ensures, d.Measure, d.Body.L} {
			out = append(out, roomOf(each)...)
		}
	}
	return out
}

func roomOf(l []api.Expr) []any {
	out := []any{slices.Clone(l[:cap(l)])}
	for _, e := range l {
		out = append(out, roomOf(e.L)...)
	}
	return out
}

const writing = "ref c := 4;; ref d := 5;; " +
	"let g (a : int) (b : int) : All int is c := !c + a; if b > 50 then (assert false; 1) else b;; " +
	"let f (a : {v : int | v > 0}) (b : int) : All {r : int | r > 0} requires a + b > 0 ensures q. q > !c - old c is let v = a + 1 in try (c := v + b; d := !d + !c; (let w = v in raise w + !d)) with e -> if e > 100 then raise e else e + g(v, b);;"

// TestNothingIsChangedOrKept asks twice, with room behind all lists.
func TestNothingIsChangedOrKept(t *testing.T) {
	l := cloned(checked(t, writing))
	before := room(l)
	for _, b := range []string{"1", "40", "60", "x"} {
		args, cells, old := roomy([]string{"2", b}, "7"), roomy([]string{"3", "-30"}, "7"), roomy([]string{"9"}, "7")
		for _, fuel := range []int{0, 1, 2, 9} {
			first := eval.Run(l, 1, args, cells, fuel)
			yes, told := eval.Formula(l, 1, fuel%2, args, "5", old, cells, fuel)
			for i := range first.Cells[:cap(first.Cells)] {
				first.Cells[:cap(first.Cells)][i] += "!" // what was answered is the caller's
			}
			again := eval.Run(l, 1, args, cells, fuel)
			yesAgain, toldAgain := eval.Formula(l, 1, fuel%2, args, "5", old, cells, fuel)
			for i := range again.Cells {
				again.Cells[i] += "!"
			}
			if !same(first, again) || yes != yesAgain || told != toldAgain {
				t.Errorf("P20.3: %v, and again %v", first, again)
			}
			if !slices.Equal(args[:4], []string{"2", b, "7", "7"}) || !slices.Equal(cells[:4], []string{"3", "-30", "7", "7"}) || !slices.Equal(old[:3], []string{"9", "7", "7"}) {
				t.Errorf("rule 3: texts are changed: %v, %v, %v", args[:4], cells[:4], old[:3])
			}
			if !reflect.DeepEqual(room(l), before) {
				t.Error("rule 3: trees are changed")
			}
		}
	}
	first, again := eval.Start(l), eval.Start(l)
	for i := range first[:cap(first)] {
		first[:cap(first)][i] += "!"
	}
	if !slices.Equal(again, []string{"4", "5"}) || !slices.Equal(eval.Start(l), again) || l[0].N != "4" {
		t.Errorf("rule 3: %v", again)
	}
}

// TestEmptyLists asks with empty lists and with none.
func TestEmptyLists(t *testing.T) {
	bare := api.Decl{Effect: api.EfPure, T: api.Type{Kind: api.TyInt}, Body: num("1")}
	empty := api.Decl{Effect: api.EfPure, T: api.Type{Kind: api.TyInt, R: []api.Expr{}}, Params: []api.Param{}, Requires: []api.Expr{}, Ensures: []api.Expr{}, Measure: []api.Expr{}, Body: api.Expr{Op: api.ENum, N: "1", L: []api.Expr{}}}
	for _, d := range []api.Decl{bare, empty} {
		for _, none := range [][]string{nil, {}} {
			if got := eval.Run([]api.Decl{d}, 0, none, none, 1); !same(got, result(api.OutValue, "1")) {
				t.Errorf("rule 2: %v", got)
			}
			for which := range 2 {
				if yes, told := eval.Formula([]api.Decl{d}, 0, which, none, "", none, none, 0); !yes || !told {
					t.Errorf("rule 2: %v, %v", yes, told)
				}
			}
		}
	}
}

// TestTheSameAtOnce asks from many goroutines of one program: each is told the same.
func TestTheSameAtOnce(t *testing.T) {
	l := checked(t, writing)
	var all sync.WaitGroup
	got := make([][]api.Result, 16)
	for i := range got {
		all.Go(func() {
			for n := range 40 {
				got[i] = append(got[i], eval.Run(l, 1, []string{strconv.Itoa(n), "40"}, []string{"3", "-60"}, n%3))
			}
		})
	}
	all.Wait()
	for i := range got {
		if !slices.EqualFunc(got[i], got[0], same) {
			t.Errorf("P20.3: %v, and %v", got[i], got[0])
		}
	}
}
