package model

import (
	"fmt"
	"slices"
	"strings"
	"testing"

	"avow/api"
	"avow/term"
)

const (
	ints  = api.SortInt
	bools = api.SortBool
	objs  = api.SortObj

	noValue = api.ErrModelValue
	noAll   = api.ErrModelAll
)

func numeral(n string) api.Term { return api.Term{Op: api.TNum, N: n} }

func op(o int, l ...api.Term) api.Term { return api.Term{Op: o, L: l} }

func app(name string, l ...api.Term) api.Term { return api.Term{Op: api.TApp, Name: name, L: l} }

func variable(name string, sort int) api.Term {
	return api.Term{Op: api.TVar, Name: name, Sort: sort}
}

func bounds(sort int, names ...string) []api.Bound {
	var out []api.Bound
	for _, name := range names {
		out = append(out, api.Bound{Name: name, Sort: sort})
	}
	return out
}

// all tells a TAll, with a pattern for each of its variables.
func all(vars []api.Bound, body api.Term) api.Term {
	out := api.Term{Op: api.TAll, Vars: vars, L: []api.Term{body}}
	for _, v := range vars {
		out.Pat = append(out.Pat, app([]string{ints: "f", bools: "r", objs: "g"}[v.Sort], variable(v.Name, v.Sort)))
	}
	return out
}

// allObjs tells a TAll over objects.
func allObjs(body api.Term, names ...string) api.Term { return all(bounds(objs, names...), body) }

func same(a, b api.Term) api.Term { return op(api.TEq, a, b) }

func sigOf() []api.Fun {
	return []api.Fun{
		{Name: "a", Out: ints}, {Name: "b", Out: ints}, {Name: "p", Out: bools}, {Name: "q", Out: bools}, {Name: "o", Out: objs}, {Name: "u", Out: objs},
		{Name: "f", Args: []int{ints}, Out: ints}, {Name: "g", Args: []int{objs}, Out: objs}, {Name: "h", Args: []int{ints, bools}, Out: bools}, {Name: "k", Args: []int{ints, objs}, Out: ints}, {Name: "r", Args: []int{bools}, Out: ints}, {Name: "s", Args: []int{objs, objs}, Out: bools}, {Name: "none", Args: []int{objs}, Out: bools},
		{Name: "a", Args: []int{objs}, Out: bools},
	}
}

func row(out string, args ...string) api.Row { return api.Row{Args: args, Out: out} }

func tableOf(name, other string, rows ...api.Row) api.Table {
	return api.Table{Name: name, Rows: rows, Else: other}
}

// modelOf tells a model of three objects with a value for all functions of sigOf but none.
func modelOf() api.Model {
	return api.Model{Objs: 3, Tables: []api.Table{
		tableOf("a", "5"), tableOf("b", "-7"), tableOf("p", "true"), tableOf("q", "false"), tableOf("o", "#0"), tableOf("u", "#2"),
		tableOf("f", "0", row("6", "5"), row("-1", "-7")),
		tableOf("g", "#0", row("#1", "#0"), row("#2", "#1")),
		tableOf("h", "false", row("true", "5", "true"), row("true", "-7", "false")),
		tableOf("k", "100", row("11", "5", "#0"), row("12", "5", "#2")),
		tableOf("r", "1", row("2", "true")),
		tableOf("s", "false", row("true", "#0", "#1"), row("true", "#1", "#2"), row("true", "#2", "#0")),
	}}
}

type valueCase struct {
	t    api.Term
	want string
	e    api.Errno
}

func runValues(t *testing.T, m api.Model, cases []valueCase) {
	t.Helper()
	for i, z := range cases {
		if got, e := Value(sigOf(), m, z.t); got != z.want || e != z.e {
			t.Errorf("P4.1: %d: Value of %.100s: %q, %v, wanted %q, %v", i, term.Text(z.t), got, e, z.want, z.e)
		}
		// Fields that an operator doesn't name say nothing.
		if got, e := Value(sigOf(), m, garbage(z.t)); got != z.want || e != z.e {
			t.Errorf("P4.1: %d: Value of %.100s, with other fields: %q, %v, wanted %q, %v", i, term.Text(z.t), got, e, z.want, z.e)
		}
	}
}

// garbage tells t with something in each field that its operator doesn't name, and spare room behind its lists.
func garbage(t api.Term) api.Term {
	out := api.Term{Op: t.Op, Name: "junk", Sort: 77, N: "junk", Vars: bounds(ints, "junk"), Pat: []api.Term{op(99)}}
	switch t.Op {
	case api.TNum:
		out.N = t.N
	case api.TApp:
		out.Name = t.Name
	case api.TVar:
		out.Name, out.Sort = t.Name, t.Sort
	case api.TAll:
		out.Vars = append(slices.Clone(t.Vars), api.Bound{Name: "spare"})[:len(t.Vars)]
		out.Pat = garbageList(t.Pat)
	}
	out.L = garbageList(t.L)
	return out
}

func garbageList(l []api.Term) []api.Term {
	out := make([]api.Term, 0, len(l)+1)
	for _, t := range l {
		out = append(out, garbage(t))
	}
	return append(out, app("spare"))[:len(l)]
}

// truths tells the operator's value of each pair of false and true, the last one changing first.
func truths(t *testing.T, o int) string {
	t.Helper()
	var out []string
	for _, x := range []int{api.TFalse, api.TTrue} {
		for _, y := range []int{api.TFalse, api.TTrue} {
			v, e := Value(nil, api.Model{}, op(o, op(x), op(y)))
			if e != api.OK {
				t.Errorf("P4.1: %v", e)
			}
			out = append(out, v)
		}
	}
	return strings.Join(out, " ")
}

func TestTruthsOfPairs(t *testing.T) {
	for o, want := range map[int]string{
		api.TAnd: "false false false true",
		api.TOr:  "false true true true",
		api.TImp: "true true false true",
		api.TIff: "true false false true",
		api.TEq:  "true false false true",
	} {
		if got := truths(t, o); got != want {
			t.Errorf("P4.1: operator %d: %s, wanted %s", o, got, want)
		}
	}
}

func TestValueOfEachOperator(t *testing.T) {
	a, b, p, q, o, u := app("a"), app("b"), app("p"), app("q"), app("o"), app("u")
	n := numeral
	nines, more := strings.Repeat("9", 500), "1"+strings.Repeat("0", 500)
	runValues(t, modelOf(), []valueCase{
		{n("0"), "0", 0}, {n("-5"), "-5", 0}, {n(nines), nines, 0}, {n("-" + nines), "-" + nines, 0},
		{op(api.TTrue), "true", 0}, {op(api.TFalse), "false", 0},
		{op(api.TNot, p), "false", 0}, {op(api.TNot, q), "true", 0},
		{op(api.TAnd), "true", 0}, {op(api.TAnd, p), "true", 0}, {op(api.TAnd, q), "false", 0}, {op(api.TAnd, p, p, p), "true", 0}, {op(api.TAnd, p, p, q), "false", 0}, {op(api.TAnd, q, p, p), "false", 0},
		{op(api.TOr), "false", 0}, {op(api.TOr, p), "true", 0}, {op(api.TOr, q), "false", 0}, {op(api.TOr, q, q, q), "false", 0}, {op(api.TOr, q, q, p), "true", 0}, {op(api.TOr, p, q, q), "true", 0},
		{op(api.TImp, p, q), "false", 0}, {op(api.TImp, q, p), "true", 0}, {op(api.TIff, p, q), "false", 0}, {op(api.TIff, q, q), "true", 0},
		{same(a, n("5")), "true", 0}, {same(a, b), "false", 0}, {same(a, op(api.TNeg, n("-5"))), "true", 0}, {same(o, u), "false", 0}, {same(u, u), "true", 0}, {same(p, op(api.TTrue)), "true", 0}, {same(p, q), "false", 0},
		{same(op(api.TAdd, n(nines), n("1")), n(more)), "true", 0}, {same(op(api.TAdd, n(nines), n("2")), n(more)), "false", 0},
		{op(api.TLe, a, a), "true", 0}, {op(api.TLe, b, a), "true", 0}, {op(api.TLe, a, b), "false", 0}, {op(api.TLe, n("10"), n("9")), "false", 0}, {op(api.TLe, n(nines), n(more)), "true", 0},
		{op(api.TLt, a, a), "false", 0}, {op(api.TLt, b, a), "true", 0}, {op(api.TLt, a, b), "false", 0}, {op(api.TLt, n("9"), n("10")), "true", 0}, {op(api.TLt, n(more), n(nines)), "false", 0},
		{op(api.TAdd), "0", 0}, {op(api.TAdd, a), "5", 0}, {op(api.TAdd, a, b), "-2", 0}, {op(api.TAdd, a, b, a, n("1")), "4", 0}, {op(api.TAdd, n(nines), n("1")), more, 0},
		{op(api.TSub, a, b), "12", 0}, {op(api.TSub, b, a), "-12", 0}, {op(api.TSub, a, a), "0", 0}, {op(api.TSub, n(more), n("1")), nines, 0},
		{op(api.TNeg, a), "-5", 0}, {op(api.TNeg, b), "7", 0}, {op(api.TNeg, n("0")), "0", 0}, {op(api.TNeg, n("-9223372036854775808")), "9223372036854775808", 0},
		{op(api.TMul, n("-2"), a), "-10", 0}, {op(api.TMul, n("0"), b), "0", 0}, {op(api.TMul, n("3"), n("-4")), "-12", 0}, {op(api.TMul, n(more), n("10")), more + "0", 0},
		{op(api.TIte, p, a, b), "5", 0}, {op(api.TIte, q, a, b), "-7", 0}, {op(api.TIte, p, o, u), "#0", 0}, {op(api.TIte, q, o, u), "#2", 0}, {op(api.TIte, p, q, p), "false", 0}, {op(api.TIte, q, q, p), "true", 0},
		{a, "5", 0}, {p, "true", 0}, {u, "#2", 0}, {app("f", a), "6", 0}, {app("f", app("f", a)), "0", 0}, {app("g", app("g", o)), "#2", 0}, {app("h", a, p), "true", 0}, {app("h", a, q), "false", 0}, {app("h", b, q), "true", 0}, {app("k", a, u), "12", 0}, {app("k", u, a), "", api.ErrTermSort}, {app("r", op(api.TLt, b, a)), "2", 0}, {app("r", q), "1", 0}, {app("s", o, app("g", o)), "true", 0}, {app("s", app("g", o), o), "false", 0},
	})
}

func TestExampleOfTheChapter(t *testing.T) {
	m := api.Model{Tables: []api.Table{tableOf("f", "0", row("5", "1"))}}
	runValues(t, m, []valueCase{{op(api.TLt, app("f", numeral("2")), app("f", numeral("1"))), "true", 0}})
}

// term.Check's errors come ahead of those of this chapter.
func TestCheckErrorsAreHandedOn(t *testing.T) {
	a, p, lost := app("a"), app("p"), app("none", app("o"))
	ofAll := all(bounds(ints, "x"), p)
	deep := func(so int) api.Term {
		x := app("p")
		for range so - 1 {
			x = op(api.TNot, x)
		}
		return x
	}
	wide := func(so int) api.Term {
		l := make([]api.Term, so-1)
		for i := range l {
			l[i] = numeral("1")
		}
		return op(api.TAdd, l...)
	}
	runValues(t, modelOf(), []valueCase{
		{api.Term{}, "", api.ErrTermForm}, {op(99), "", api.ErrTermForm}, {numeral("05"), "", api.ErrTermForm}, {op(api.TNot), "", api.ErrTermForm}, {op(api.TMul, a, numeral("2")), "", api.ErrTermForm}, {app("f"), "", api.ErrTermForm},
		{op(api.TNot, a), "", api.ErrTermSort}, {app("f", p), "", api.ErrTermSort}, {same(a, p), "", api.ErrTermSort},
		{app("zz"), "", api.ErrTermName}, {variable("x", objs), "", api.ErrTermName}, {op(api.TAnd, allObjs(p, "x"), same(variable("x", objs), app("o"))), "", api.ErrTermName},
		{deep(api.MaxDepth), "false", 0}, {deep(api.MaxDepth + 1), "", api.ErrTermDeep},
		{wide(api.MaxNodes), "49999", 0}, {wide(api.MaxNodes + 1), "", api.ErrTermMany},
		{op(api.TAnd, lost, op(api.TNot, a)), "", api.ErrTermSort}, {op(api.TAnd, ofAll, app("zz")), "", api.ErrTermName},
		// Of functions of one name the first one counts.
		{app("a", app("o")), "", api.ErrTermForm},
	})
	for _, sig := range [][]api.Fun{nil, {}} {
		if got, e := Value(sig, modelOf(), a); got != "" || e != api.ErrTermName {
			t.Errorf("P4.1: with no function: %q, %v", got, e)
		}
	}
	if got, e := Value([]api.Fun{{Name: "a", Out: 7}}, modelOf(), a); got != "" || e != api.ErrTermSort {
		t.Errorf("P4.1: with a sort that is none: %q, %v", got, e)
	}
}

// What is handed in isn't changed, the spare room behind lists included.
func TestArgumentsStay(t *testing.T) {
	sig := append(sigOf(), api.Fun{Name: "spare"})[:len(sigOf())]
	m := modelOf()
	m.Tables = append(m.Tables, tableOf("spare", "1"))[:len(m.Tables)]
	for i := range m.Tables {
		rows := m.Tables[i].Rows
		for j := range rows {
			rows[j].Args = append(rows[j].Args, "spare")[:len(rows[j].Args)]
		}
		m.Tables[i].Rows = append(rows, row("spare", "spare"))[:len(rows)]
	}
	x, y := variable("x", objs), variable("y", objs)
	l := garbageList([]api.Term{app("p"), allObjs(op(api.TOr, same(x, y), app("s", x, y), app("s", y, x)), "x", "y"), op(api.TLe, app("a"), app("f", app("a")))})
	text := func() string {
		out := fmt.Sprint(sig[:cap(sig)], m.Objs, m.Tables[:cap(m.Tables)], l[:cap(l)])
		for _, t := range m.Tables {
			out += fmt.Sprint(t.Rows[:cap(t.Rows)])
			for _, r := range t.Rows {
				out += fmt.Sprint(r.Args[:cap(r.Args)])
			}
		}
		return out
	}
	before := text()
	for range 3 {
		if ok, e := Holds(sig, m, l); !ok || e != api.OK {
			t.Fatalf("P4.2: %v, %v", ok, e)
		}
		if got, e := Value(sig, m, l[1]); got != "true" || e != api.OK {
			t.Fatalf("P4.1: %q, %v", got, e)
		}
		if text() != before {
			t.Fatal("an argument has changed")
		}
	}
}

// Terms that share lists, or are deeper than any limit, or contain themselves: calls end, and don't panic.
func TestEnds(t *testing.T) {
	doubled, chain, f := app("p"), app("p"), app("a")
	for range 150 {
		doubled = op(api.TAnd, doubled, doubled)
	}
	for range 100000 {
		chain, f = op(api.TNot, chain), app("f", f)
	}
	inner := []api.Term{app("p"), app("p")}
	inner[0], inner[1] = op(api.TAnd, inner...), op(api.TNot, app("p"))
	inner[0].L = inner
	ring := make([]api.Term, 1)
	ring[0] = api.Term{Op: api.TAll, Vars: bounds(objs, "x"), L: ring, Pat: ring}
	for i, x := range []api.Term{doubled, chain, f, inner[0], ring[0], allObjs(ring[0], "x")} {
		if got, e := Value(sigOf(), modelOf(), x); got != "" || e != api.ErrTermDeep && e != api.ErrTermMany {
			t.Errorf("P4.1: %d: %q, %v", i, got, e)
		}
		if ok, e := Holds(sigOf(), modelOf(), []api.Term{x}); ok || e != api.ErrTermDeep && e != api.ErrTermMany {
			t.Errorf("P4.2: %d: %v, %v", i, ok, e)
		}
	}
	shared := app("p")
	for range 14 {
		shared = op(api.TAnd, shared, shared)
	}
	runValues(t, modelOf(), []valueCase{{shared, "true", 0}})
}
