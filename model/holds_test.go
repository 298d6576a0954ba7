package model

import (
	"testing"

	"avow/api"
)

func TestHolds(t *testing.T) {
	a, p, q, o := app("a"), app("p"), app("q"), app("o")
	lost, numbers := app("none", o), all(bounds(ints, "x"), p)
	one := allObjs(op(api.TNot, same(app("g", variable("x", objs)), variable("x", objs))), "x")
	for i, z := range []struct {
		l    []api.Term
		want bool
		e    api.Errno
	}{
		{nil, true, 0}, {[]api.Term{}, true, 0},
		{[]api.Term{p}, true, 0}, {[]api.Term{q}, false, 0}, {[]api.Term{p, one, op(api.TLe, a, a)}, true, 0},
		{[]api.Term{p, p, q}, false, 0}, {[]api.Term{q, p, p}, false, 0}, {[]api.Term{p, q, p}, false, 0}, {[]api.Term{q, q}, false, 0},
		// What is no formula, ahead of one that is false or behind it.
		{[]api.Term{a}, false, api.ErrTermSort}, {[]api.Term{o}, false, api.ErrTermSort}, {[]api.Term{p, a, p}, false, api.ErrTermSort}, {[]api.Term{q, o}, false, api.ErrTermSort}, {[]api.Term{a, q}, false, api.ErrTermSort}, {[]api.Term{numeral("1"), p}, false, api.ErrTermSort},
		// The first error that one has, wherever what is false or no formula stands.
		{[]api.Term{lost}, false, noValue}, {[]api.Term{q, lost}, false, noValue}, {[]api.Term{a, lost}, false, noValue}, {[]api.Term{lost, a}, false, noValue}, {[]api.Term{p, numbers}, false, noAll},
		{[]api.Term{a, o, numbers}, false, noAll}, {[]api.Term{lost, numbers}, false, noValue}, {[]api.Term{numbers, lost}, false, noAll}, {[]api.Term{p, lost, app("zz")}, false, noValue}, {[]api.Term{a, app("zz"), lost}, false, api.ErrTermName}, {[]api.Term{a, op(api.TNot), lost}, false, api.ErrTermForm}, {[]api.Term{q, op(api.TNot, a), app("zz")}, false, api.ErrTermSort},
	} {
		if got, e := Holds(sigOf(), modelOf(), z.l); got != z.want || e != z.e {
			t.Errorf("P4.2: %d: %v, %v, wanted %v, %v", i, got, e, z.want, z.e)
		}
	}
}

// A solver's model of formulas is confirmed, one that isn't theirs isn't: x < f(x) and f(f(x)) = x + 3 - y, of which objects that differ are told apart.
func TestModelsAreAsked(t *testing.T) {
	x, y := app("a"), app("b")
	f := func(t api.Term) api.Term { return app("f", t) }
	formulas := []api.Term{
		op(api.TLt, x, f(x)),
		same(f(f(x)), op(api.TSub, op(api.TAdd, x, numeral("3")), y)),
		op(api.TOr, op(api.TNot, op(api.TLe, y, numeral("0"))), op(api.TIff, app("p"), op(api.TNot, app("q")))),
		op(api.TNot, same(app("o"), app("u"))),
		allObjs(op(api.TOr, same(variable("v", objs), app("o")), same(variable("v", objs), app("u"))), "v"),
	}
	tables := func(y, at3 string) []api.Table {
		return []api.Table{tableOf("a", "1"), tableOf("b", y), tableOf("f", at3, row("3", "1")), tableOf("p", "true"), tableOf("q", "false"), tableOf("o", "#1"), tableOf("u", "#0")}
	}
	for i, z := range []struct {
		m    api.Model
		want bool
		e    api.Errno
	}{
		{api.Model{Objs: 2, Tables: tables("0", "4")}, true, 0},
		{api.Model{Objs: 2, Tables: tables("-1", "5")}, true, 0},
		{api.Model{Objs: 2, Tables: tables("0", "5")}, false, 0},
		{api.Model{Objs: 3, Tables: tables("0", "4")}, false, 0},
		{api.Model{Objs: 1, Tables: tables("0", "4")}, false, noValue},
		{api.Model{Objs: 2, Tables: tables("0", "4")[1:]}, false, noValue},
		{api.Model{Objs: 2, Tables: tables("00", "4")}, false, noValue},
	} {
		if got, e := Holds(sigOf(), z.m, formulas); got != z.want || e != z.e {
			t.Errorf("P4.3: %d: %v, %v, wanted %v, %v", i, got, e, z.want, z.e)
		}
	}
}
