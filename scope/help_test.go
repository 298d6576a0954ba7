package scope_test

import (
	"errors"
	"reflect"
	"slices"
	"testing"
	"unsafe"

	"avow/api"
	"avow/parse"
	"avow/scope"
)

func read(t *testing.T, text string) []api.Decl {
	t.Helper()
	l, err := parse.Program(text)
	if err != nil {
		t.Fatalf("%q: %v", text, err)
	}
	return l
}

// ask tells what Resolve answers, and holds what is so of every answer.
func ask(t *testing.T, l []api.Decl) ([]api.Decl, *api.PlaceError) {
	t.Helper()
	out, err := scope.Resolve(l)
	if err == nil {
		return out, nil
	}
	var wrong *api.PlaceError
	if !errors.As(err, &wrong) || wrong == nil || reflect.TypeOf(err) != reflect.TypeFor[*api.PlaceError]() {
		t.Fatalf("P17.1: %T is no *api.PlaceError", err)
	}
	if len(out) > 0 {
		t.Errorf("rule 4: %v, and %+v beside it", err, out)
	}
	return nil, wrong
}

// named tells all expressions that have a number, in no order that counts.
func named(l []api.Decl) []*api.Expr {
	var out []*api.Expr
	for _, each := range listsOf(l).exprs {
		for i := range each {
			if slices.Contains([]int{api.EVar, api.ERead, api.EWrite, api.EOld, api.ECall}, each[i].Op) {
				out = append(out, &each[i])
			}
		}
	}
	return out
}

// lists: all lists that hang on declarations. (A body stands in one of its own, which shares the body's operands.)
type lists struct {
	params [][]api.Param
	exprs  [][]api.Expr
}

func listsOf(l []api.Decl) *lists {
	out := &lists{}
	for i := range l {
		d := &l[i]
		out.params = append(out.params, d.Params)
		for _, p := range d.Params {
			out.add(p.T.R)
		}
		out.add(d.Requires)
		out.add(d.T.R)
		out.add(d.Ensures)
		out.add(d.Measure)
		out.add(alone(&d.Body))
	}
	return out
}

func (o *lists) add(l []api.Expr) {
	o.exprs = append(o.exprs, l)
	for _, e := range l {
		o.add(e.L)
	}
}

// alone tells the list of one expression in the memory where it stands.
func alone(e *api.Expr) []api.Expr { return unsafe.Slice(e, 1) }

// cloned tells the same in new memory, each list with some spare room behind it, and nil where it is empty.
func cloned(l []api.Decl) []api.Decl {
	out := roomy(l, api.Decl{Name: "spare"})
	for i := range out {
		d := &out[i]
		d.Params = roomy(d.Params, api.Param{Name: "spare"})
		for j := range d.Params {
			d.Params[j].T.R = clonedExprs(d.Params[j].T.R)
		}
		d.T.R, d.Requires, d.Ensures, d.Measure = clonedExprs(d.T.R), clonedExprs(d.Requires), clonedExprs(d.Ensures), clonedExprs(d.Measure)
		d.Body.L = clonedExprs(d.Body.L)
	}
	return out
}

func clonedExprs(l []api.Expr) []api.Expr {
	out := roomy(l, api.Expr{Name: "spare", I: 5})
	for i := range out {
		out[i].L = clonedExprs(out[i].L)
	}
	return out
}

func roomy[T any](l []T, spare T) []T {
	if len(l) == 0 {
		return nil
	}
	return append(slices.Clone(l), spare, spare)[:len(l)]
}

// same tells whether two are the same, a nil list being an empty one.
func same(a, b []api.Decl) bool { return reflect.DeepEqual(cloned(a), cloned(b)) }
