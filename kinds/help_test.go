package kinds_test

import (
	"errors"
	"reflect"
	"slices"
	"strings"
	"testing"

	"avow/api"
	"avow/kinds"
	"avow/parse"
	"avow/scope"
)

// resolved tells a text's declarations.
func resolved(t *testing.T, text string) []api.Decl {
	t.Helper()
	l, err := parse.Program(text)
	if err == nil {
		l, err = scope.Resolve(l)
	}
	if err != nil {
		t.Fatalf("%s: %v", text, err)
	}
	return l
}

// marked tells a text without its @, and where that stood; -1, if there is none.
func marked(text string) (string, int) {
	before, after, found := strings.Cut(text, "@")
	if !found {
		return text, -1
	}
	return before + after, len(before)
}

// asked tells an error as the chapter has it.
func asked(t *testing.T, err error) *api.PlaceError {
	t.Helper()
	if err == nil {
		return nil
	}
	var wrong *api.PlaceError
	if !errors.As(err, &wrong) || wrong == nil || reflect.TypeOf(err) != reflect.TypeFor[*api.PlaceError]() {
		t.Fatalf("P18.1, P18.3: %T is no *api.PlaceError", err)
	}
	return wrong
}

func check(t *testing.T, l []api.Decl) *api.PlaceError {
	t.Helper()
	return asked(t, kinds.Check(l))
}

func kindOf(t *testing.T, l []api.Decl, at int, e api.Expr, binders []int) (int, *api.PlaceError) {
	t.Helper()
	kind, err := kinds.Kind(l, at, e, binders)
	if err != nil && kind != 0 {
		t.Errorf("rule 4: %v, and kind %d beside it", err, kind)
	}
	return kind, asked(t, err)
}

// effect: what Effect tells.
type effect struct{ cells, raises, endless bool }

func effectOf(l []api.Decl, e api.Expr) effect {
	cells, raises, endless := kinds.Effect(l, e)
	return effect{cells, raises, endless}
}

// definitions tells the definitions alone.
func definitions(l []api.Decl) []api.Decl {
	return slices.DeleteFunc(slices.Clone(l), func(d api.Decl) bool { return d.Cell })
}

// paramKinds tells the kinds of a definition's parameters.
func paramKinds(d api.Decl) []int {
	var out []int
	for _, p := range d.Params {
		out = append(out, p.T.Kind)
	}
	return out
}

// cloned tells the same in new memory, each list with some spare room behind it, and nil where it is empty.
func cloned(l []api.Decl) []api.Decl {
	out := roomy(l, api.Decl{Name: "spare"})
	for i := range out {
		d := &out[i]
		d.Params = roomy(d.Params, api.Param{Name: "spare"})
		for j := range d.Params {
			d.Params[j].T.R = clonedExprs(d.Params[j].T.R)
		}
		d.T.R, d.Requires, d.Ensures, d.Measure = clonedExprs(d.T.R), clonedExprs(d.Requires), clonedExprs(d.Ensures), clonedExprs(d.Measure)
		d.Body.L = clonedExprs(d.Body.L)
	}
	return out
}

func clonedExprs(l []api.Expr) []api.Expr {
	out := roomy(l, api.Expr{Name: "spare", I: 5})
	for i := range out {
		out[i].L = clonedExprs(out[i].L)
	}
	return out
}

func roomy[T any](l []T, spare T) []T {
	if len(l) == 0 {
		return nil
	}
	return append(slices.Clone(l), spare, spare)[:len(l)]
}
