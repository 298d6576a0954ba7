package scope_test

import (
	"reflect"
	"slices"
	"strconv"
	"testing"

	"avow/api"
	"avow/scope"
)

// everyPart has each kind of declaration, of expression and of list.
const everyPart = "ref x := 1;; let rec f (a : {v : int | v > 0}) (b : {w : int | a > 0 && w > 1}) : All {v : int | v > a} requires a > b ensures r. r > old x decreases a, b + 1 is (let c = f(a, b) in x := c; try f(1 + 2, !x) with e -> (if a = b then -e else 7));; ref y := 1;; let g (a : int) : Pure int is f(a, 1);;"

// scribbled writes into all lists, and the room behind them, something that stands in that list alone, and tells whether that stood there to the end.
func scribbled(l []api.Decl) bool {
	all := listsOf(l)
	right := true
	each := func(write bool) {
		for i, params := range all.params {
			params = params[:cap(params)]
			for j := range params {
				right = write || right && params[j].At == i
				params[j] = api.Param{Name: "scribbled", At: i}
			}
		}
		for i, exprs := range all.exprs {
			exprs = exprs[:cap(exprs)]
			for j := range exprs {
				right = write || right && exprs[j].At == len(all.params)+i
				exprs[j] = api.Expr{Name: "scribbled", At: len(all.params) + i}
			}
		}
	}
	each(true)
	each(false)
	l = l[:cap(l)]
	for i := range l {
		l[i] = api.Decl{Name: "scribbled"}
	}
	return right
}

// room tells lists with the room behind them.
func room(l []api.Decl) []any {
	out := []any{slices.Clone(l[:cap(l)])}
	all := listsOf(l)
	for _, params := range all.params {
		out = append(out, slices.Clone(params[:cap(params)]))
	}
	for _, exprs := range all.exprs {
		out = append(out, slices.Clone(exprs[:cap(exprs)]))
	}
	return out
}

// TestNothingIsChangedOrKept asks with room behind all lists, and changes all that was answered, and all that was handed in.
func TestNothingIsChangedOrKept(t *testing.T) {
	in := cloned(read(t, everyPart))
	before := room(in)
	out, wrong := ask(t, in)
	if wrong != nil {
		t.Fatal(wrong)
	}
	if !reflect.DeepEqual(room(in), before) {
		t.Errorf("rule 3: what is handed in is changed")
	}
	wanted := cloned(out)
	if !scribbled(out) {
		t.Errorf("rule 3: two lists share memory")
	}
	if !reflect.DeepEqual(room(in), before) {
		t.Errorf("rule 3: what is answered shares memory with what is handed in")
	}
	again, wrong := ask(t, in)
	if wrong != nil || !same(again, wanted) {
		t.Errorf("rule 8: %v, %+v, wanted %+v", wrong, again, wanted)
	}
	scribbled(in)
	if !same(again, wanted) {
		t.Errorf("rule 3: what is handed in is kept")
	}
}

// TestNothingIsChangedBesideErrors is as TestNothingIsChangedOrKept, of what is refused.
func TestNothingIsChangedBesideErrors(t *testing.T) {
	in := cloned(read(t, everyPart+"let h (a : int) : Pure int is a + z;;"))
	before := room(in)
	for range 2 {
		if _, wrong := ask(t, in); wrong == nil || wrong.Err != api.ErrName {
			t.Errorf("P17.1: %v", wrong)
		}
		if !reflect.DeepEqual(room(in), before) {
			t.Errorf("rule 3: what is handed in is changed")
		}
	}
}

// TestErrorsAreNew holds that an error that was told can be changed.
func TestErrorsAreNew(t *testing.T) {
	l := read(t, "let f : Pure int is x;;")
	_, first := ask(t, l)
	wanted := *first
	first.At = -1
	if _, again := ask(t, l); *again != wanted {
		t.Errorf("rule 3: %v, wanted %v", again, &wanted)
	}
}

func TestCellsAndDefsAreNew(t *testing.T) {
	in := cloned(read(t, everyPart))
	before := room(in)
	cells, defs := scope.Cells(in), scope.Defs(in)
	for i := range cells {
		cells[i] = "scribbled" + strconv.Itoa(i)
	}
	for i := range defs {
		defs[i] = -1
	}
	if !slices.Equal(scope.Cells(in), []string{"x", "y"}) || !slices.Equal(scope.Defs(in), []int{1, 3}) || !reflect.DeepEqual(room(in), before) {
		t.Errorf("P17.3, rule 3: %q, %d", scope.Cells(in), scope.Defs(in))
	}
}
