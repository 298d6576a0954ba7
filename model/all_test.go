package model

import (
	"strconv"
	"testing"

	"avow/api"
)

func TestAllOverObjects(t *testing.T) {
	x, y, o, p := variable("x", objs), variable("y", objs), app("o"), app("p")
	next := func(t api.Term) api.Term { return app("g", t) }
	runValues(t, modelOf(), []valueCase{
		{allObjs(p, "x"), "true", 0}, {allObjs(app("q"), "x"), "false", 0},
		{allObjs(same(x, x), "x"), "true", 0}, {allObjs(same(x, o), "x"), "false", 0},
		{allObjs(op(api.TNot, same(next(x), x)), "x"), "true", 0},
		{allObjs(same(next(next(next(x))), x), "x"), "true", 0},
		{allObjs(same(next(next(x)), x), "x"), "false", 0},
		// False of the first object alone, of the last one alone.
		{allObjs(op(api.TNot, same(x, o)), "x"), "false", 0}, {allObjs(op(api.TNot, same(x, app("u"))), "x"), "false", 0},
		{allObjs(same(app("s", x, y), same(next(x), y)), "x", "y"), "true", 0},
		{allObjs(same(app("s", x, y), same(next(x), y)), "y", "x"), "true", 0},
		{allObjs(same(app("s", y, x), same(next(x), y)), "x", "y"), "false", 0},
		{allObjs(op(api.TOr, same(x, y), app("s", x, y), app("s", y, x)), "x", "y"), "true", 0},
		{allObjs(op(api.TOr, same(x, y), app("s", x, y)), "x", "y"), "false", 0},
		{op(api.TNot, allObjs(same(x, o), "x")), "true", 0},
		// Of variables of one name the innermost one counts; behind a TAll the outer one does again.
		{allObjs(op(api.TAnd, allObjs(same(next(next(next(x))), x), "x"), same(x, x)), "x"), "true", 0},
		{allObjs(op(api.TOr, op(api.TNot, allObjs(same(x, o), "x")), same(x, o)), "x"), "true", 0},
		{allObjs(op(api.TAnd, op(api.TNot, allObjs(same(x, o), "x")), same(x, o)), "x"), "false", 0},
		{allObjs(allObjs(op(api.TOr, same(x, y), app("s", x, y), app("s", y, x)), "y"), "x"), "true", 0},
		{allObjs(op(api.TNot, allObjs(op(api.TNot, app("s", x, y)), "y")), "x"), "true", 0},
		{op(api.TNot, allObjs(op(api.TNot, allObjs(app("s", x, y), "y")), "x")), "false", 0},
		{op(api.TAnd, allObjs(same(x, x), "x"), allObjs(op(api.TNot, same(next(y), y)), "y")), "true", 0},
		{allObjs(op(api.TLe, op(api.TIte, same(x, o), numeral("1"), numeral("2")), numeral("2")), "x"), "true", 0},
		// A value is the same wherever it is asked, whatever is bound around it.
		{allObjs(op(api.TAnd, same(app("f", app("f", app("f", op(api.TAdd, app("a"), app("a"), app("b"))))), numeral("0")), same(x, x)), "x"), "true", 0},
	})
}

func TestAllOverNone(t *testing.T) {
	x, lost := variable("x", objs), app("none", app("o"))
	for _, objects := range []int{0, -1, -1 << 63} {
		runValues(t, api.Model{Objs: objects}, []valueCase{
			{allObjs(op(api.TFalse), "x"), "true", 0}, {allObjs(lost, "x"), "true", 0}, {allObjs(app("none", x), "x"), "true", 0},
			{op(api.TNot, allObjs(lost, "x", "y")), "false", 0}, {allObjs(op(api.TNot, allObjs(lost, "y")), "x"), "true", 0},
			{op(api.TAnd, allObjs(lost, "x"), lost), "", noValue},
			{allObjs(all(bounds(ints, "y"), op(api.TTrue)), "x"), "", noAll},
		})
	}
	runValues(t, api.Model{Objs: 1}, []valueCase{{allObjs(op(api.TFalse), "x"), "false", 0}, {allObjs(lost, "x"), "", noValue}})
}

func TestAllOverNumbersAndTruths(t *testing.T) {
	p, lost := app("p"), app("none", app("o"))
	for _, m := range []api.Model{modelOf(), {}, {Objs: 1}, {Objs: 1 << 40}} {
		for _, sort := range []int{ints, bools} {
			x := all(bounds(sort, "x"), op(api.TTrue))
			mixed := func(vars ...api.Bound) api.Term { return all(vars, op(api.TTrue)) }
			own, obj := api.Bound{Name: "x", Sort: sort}, api.Bound{Name: "y", Sort: objs}
			runValues(t, m, []valueCase{
				{x, "", noAll}, {op(api.TNot, x), "", noAll}, {mixed(own, obj), "", noAll}, {mixed(obj, own), "", noAll}, {allObjs(x, "y"), "", noAll}, {op(api.TIte, p, p, x), "", noAll},
				// It comes ahead of what has no value, wherever that stands.
				{op(api.TAnd, lost, x), "", noAll}, {op(api.TOr, allObjs(lost, "y"), app("none", op(api.TIte, x, app("o"), app("o")))), "", noAll},
			})
		}
	}
}

// names tells so many names.
func names(so int) []string {
	var out []string
	for i := range so {
		out = append(out, "x"+strconv.Itoa(i))
	}
	return out
}

func TestMoreListsThanMayBeAsked(t *testing.T) {
	for _, z := range []struct {
		objects, vars int
		e             api.Errno
	}{
		{0, 1, 0}, {0, 17, 0}, {0, 1000, 0}, {1, 17, 0}, {1, 1000, 0},
		{2, 16, 0}, {2, 17, noAll}, {3, 10, 0}, {3, 11, noAll}, {4, 8, 0}, {4, 9, noAll}, {16, 4, 0}, {16, 5, noAll}, {17, 4, noAll}, {40, 3, 0}, {41, 3, noAll},
		{255, 2, 0}, {256, 2, 0}, {257, 2, noAll}, {256, 3, noAll}, {1000, 1, 0}, {1000, 2, noAll}, {1001, 1, 0}, {1 << 40, 1, 0}, {1 << 40, 2, noAll}, {1<<63 - 1, 1000, noAll}, {2, 1000, noAll}, {2, 64, noAll},
	} {
		last := variable("x"+strconv.Itoa(z.vars-1), objs)
		want := "true"
		if z.e != api.OK {
			want = ""
		}
		m := api.Model{Objs: z.objects, Tables: []api.Table{tableOf("g", "#0")}}
		runValues(t, m, []valueCase{{allObjs(same(last, last), names(z.vars)...), want, z.e}})
	}
	// Each TAll is asked by itself; one that can't be is told wherever it stands.
	m := api.Model{Objs: 200}
	runValues(t, m, []valueCase{
		{allObjs(allObjs(op(api.TTrue), "y", "z"), "x"), "true", 0},
		{op(api.TOr, op(api.TTrue), allObjs(op(api.TFalse), "x", "y", "z")), "", noAll},
		{op(api.TOr, app("none", app("o")), allObjs(allObjs(op(api.TFalse), "x", "y", "z"), "w")), "", noAll},
	})
}

// All lists are asked, those behind one of which the body is false too, and none twice or never: told by tables that fit one list alone.
func TestEachListIsAsked(t *testing.T) {
	x, y := variable("x", objs), variable("y", objs)
	body := app("s", x, y)
	for first := range 4 {
		for second := range 4 {
			at := []string{"#" + strconv.Itoa(first), "#" + strconv.Itoa(second)}
			m := api.Model{Objs: 4, Tables: []api.Table{tableOf("s", "true", row("false", at...))}}
			runValues(t, m, []valueCase{{allObjs(body, "x", "y"), "false", 0}, {allObjs(allObjs(body, "x"), "y"), "false", 0}})
			m = api.Model{Objs: 4, Tables: []api.Table{tableOf("s", "false", row("lost", at...))}}
			runValues(t, m, []valueCase{{allObjs(body, "x", "y"), "", noValue}, {allObjs(allObjs(body, "x"), "y"), "", noValue}})
			m = api.Model{Objs: 4, Tables: []api.Table{tableOf("s", "false", row("true", at...))}}
			runValues(t, m, []valueCase{{op(api.TNot, allObjs(op(api.TNot, body), "y", "x")), "true", 0}})
		}
	}
}

// What is asked again and again of the same objects is reckoned once: these would else take longer than anyone waits.
func TestNestsEnd(t *testing.T) {
	m := api.Model{Objs: 4, Tables: []api.Table{tableOf("g", "#0", row("#1", "#0"), row("#2", "#1")), tableOf("s", "true"), tableOf("a", "1")}}
	first, last := variable("x0", objs), variable("x95", objs)
	vacuous, inner, chained := op(api.TFalse), same(app("g", last), first), op(api.TTrue)
	big := make([]api.Term, 20000)
	for i := range big {
		big[i] = app("a")
	}
	ground := op(api.TLe, op(api.TAdd, big...), numeral("20000"))
	for i := 95; i >= 0; i-- {
		name := "x" + strconv.Itoa(i)
		vacuous, inner = allObjs(vacuous, "x0"), allObjs(inner, name)
		if i > 0 {
			chained = op(api.TAnd, app("s", variable("x"+strconv.Itoa(i-1), objs), variable(name, objs)), chained)
		}
		chained = allObjs(chained, name)
	}
	runValues(t, m, []valueCase{{vacuous, "false", 0}, {inner, "false", 0}, {op(api.TNot, inner), "true", 0}, {chained, "true", 0}})
	x, y := variable("x", objs), variable("y", objs)
	m.Objs = 256
	runValues(t, m, []valueCase{
		{allObjs(op(api.TOr, same(x, y), ground), "x", "y"), "true", 0},
		{allObjs(op(api.TAnd, same(x, x), allObjs(same(app("s", y, y), ground), "y")), "x"), "true", 0},
	})
}

// Values that are kept of objects are told apart, of objects of great numbers too.
func TestManyObjectsAreToldApart(t *testing.T) {
	x, y := variable("x", objs), variable("y", objs)
	chain := x
	for range 9 {
		chain = app("g", chain)
	}
	stays := tableOf("g", "#0")
	for o := range 300 {
		stays.Rows = append(stays.Rows, row("#"+strconv.Itoa(o), "#"+strconv.Itoa(o)))
	}
	m := api.Model{Objs: 300, Tables: []api.Table{stays}}
	asked := allObjs(allObjs(op(api.TAnd, same(chain, x), same(y, y)), "y"), "x")
	runValues(t, m, []valueCase{{asked, "true", 0}})
	for _, o := range []int{1, 255, 256, 257, 299} {
		stays.Rows[o].Out = "#0"
		runValues(t, m, []valueCase{{asked, "false", 0}})
		stays.Rows[o].Out = "#" + strconv.Itoa(o)
	}
}
