package smt

import (
	"cmp"
	"math/rand"
	"reflect"
	"slices"
	"strconv"
	"strings"
	"testing"

	"avow/api"
	"avow/cert"
	"avow/model"
	"avow/term"
)

const (
	ints  = api.SortInt
	bools = api.SortBool
	objs  = api.SortObj
)

// enough: P13.2's steps.
var enough = api.Budget{Steps: 1000000, Rounds: 3, Fuel: 100}

func numeral(n string) api.Term { return api.Term{Op: api.TNum, N: n} }

func count(n int) api.Term { return numeral(strconv.Itoa(n)) }

func op(o int, l ...api.Term) api.Term { return api.Term{Op: o, L: l} }

func app(name string, l ...api.Term) api.Term { return api.Term{Op: api.TApp, Name: name, L: l} }

func variable(name string, sort int) api.Term {
	return api.Term{Op: api.TVar, Name: name, Sort: sort}
}

func not(t api.Term) api.Term { return op(api.TNot, t) }

func same(a, b api.Term) api.Term { return op(api.TEq, a, b) }

func atMost(a, b api.Term) api.Term { return op(api.TLe, a, b) }

func less(a, b api.Term) api.Term { return op(api.TLt, a, b) }

func yes() api.Term { return op(api.TTrue) }

func terms(l ...api.Term) []api.Term { return l }

// bounds tells variables of one sort.
func bounds(sort int, names ...string) []api.Bound {
	var out []api.Bound
	for _, name := range names {
		out = append(out, api.Bound{Name: name, Sort: sort})
	}
	return out
}

func all(vars []api.Bound, body api.Term, pat ...api.Term) api.Term {
	return api.Term{Op: api.TAll, Vars: vars, Pat: pat, L: terms(body)}
}

// sigOf: constants of all sorts, and functions; of two of one name the first counts.
func sigOf() []api.Fun {
	fun := func(name string, out int, args ...int) api.Fun { return api.Fun{Name: name, Args: args, Out: out} }
	return []api.Fun{
		fun("a", ints), fun("b", ints), fun("c", ints), fun("p", bools), fun("q", bools), fun("r", bools), fun("s", bools), fun("o", objs), fun("u", objs), fun("w", objs),
		fun("f", ints, ints), fun("d", ints, ints, ints), fun("k", ints, objs), fun("t", ints, bools),
		fun("g", objs, objs), fun("m", objs, objs, objs), fun("gi", objs, ints), fun("gb", objs, bools), fun("four", objs, objs, objs, objs, objs), fun("mixed", objs, ints, bools, objs),
		fun("h", bools, objs), fun("hi", bools, ints, bools), fun("hb", bools, bools),
		fun("a", bools, objs), fun("g", ints, ints, ints),
	}
}

func texts(l []api.Term) string {
	var out []string
	for _, t := range l {
		out = append(out, term.Text(t))
	}
	return strings.Join(out, "\n")
}

// ask tells the verdict of l, and holds all that is told against the promises that hold always.
func ask(t *testing.T, l []api.Term, b api.Budget) int {
	t.Helper()
	return askWith(t, sigOf(), l, b)
}

func askWith(t *testing.T, sig []api.Fun, l []api.Term, b api.Budget) int {
	t.Helper()
	p, e := Solve(sig, l, b)
	if e != api.OK {
		t.Fatalf("P13.1: %v\n%.2000s", e, texts(l))
	}
	switch p.Verdict {
	case api.Unsat:
		if n, e := cert.Check(sig, l, p.Cert); n != len(p.Cert) || e != api.OK || !reflect.DeepEqual(p.M, api.Model{}) {
			t.Fatalf("P13.1: line %d of %d: %v\n%.2000s", n, len(p.Cert), e, texts(l))
		}
		tidy(t, p.Cert)
	case api.Sat:
		holds, e := model.Holds(sig, p.M, l)
		if !holds || e != api.OK || len(p.Cert) > 0 {
			t.Fatalf("P13.1: %v, %v of %.1000v\n%.2000s", holds, e, p.M, texts(l))
		}
		if slices.ContainsFunc(l, func(t api.Term) bool { return !term.Ground(t) }) {
			t.Fatalf("P13.1: Sat of formulas for all\n%.2000s", texts(l))
		}
	default:
		if !reflect.DeepEqual(p, api.Proof{}) {
			t.Fatalf("P13.1: Unknown, and more: %.1000v", p)
		}
	}
	return p.Verdict
}

// tidy wants nothing in fields that a line's kind doesn't name.
func tidy(t *testing.T, c []api.Line) {
	t.Helper()
	for _, x := range c {
		terms := x.Kind == api.LineInst || x.Kind == api.LineIte || x.Kind == api.LineTri
		if x.Kind == api.LineInput && len(x.Clause) > 0 || x.Kind != api.LineInput && x.I != 0 || !terms && len(x.Terms) > 0 || x.Kind != api.LineLia && !reflect.DeepEqual(x.F, api.Farkas{}) {
			t.Fatalf("rule 4: %v", x)
		}
	}
}

// verdictOf: formulas, and their verdict.
type verdictOf struct {
	l    []api.Term
	want int
}

func asksAll(t *testing.T, promise string, l []verdictOf) {
	t.Helper()
	for i, z := range l {
		if got := ask(t, z.l, enough); got != z.want {
			t.Errorf("%s: %d: %d, wanted %d\n%.2000s", promise, i, got, z.want, texts(z.l))
		}
	}
}

// maker makes formulas.
type maker struct{ *rand.Rand }

func newMaker(seed int64) maker { return maker{rand.New(rand.NewSource(seed))} }

func (m maker) of(l ...api.Term) api.Term { return l[m.Intn(len(l))] }

// connected tells a formula of these.
func (m maker) connected(l []api.Term, deep int) api.Term {
	if deep <= 0 || m.Intn(10) == 0 {
		return m.of(l...)
	}
	in := func() api.Term { return m.connected(l, deep-1-m.Intn(2)) }
	switch m.Intn(8) {
	case 0:
		return not(in())
	case 1:
		return op(api.TAnd, in(), in())
	case 2:
		return op(api.TOr, in(), in(), in())
	case 3:
		return op(api.TImp, in(), in())
	case 4:
		return op(api.TIff, in(), in())
	case 5:
		return same(in(), in())
	case 6:
		return m.of(yes(), op(api.TFalse), op(api.TAnd), op(api.TOr), in())
	}
	return op(api.TAnd, in(), in(), in())
}

// number, object, atom, formula tell terms of any kind.
func (m maker) number(deep int) api.Term {
	if deep <= 0 || m.Intn(4) == 0 {
		return m.of(app("a"), app("b"), app("c"), count(m.Intn(7)-3))
	}
	in := func() api.Term { return m.number(deep - 1) }
	switch m.Intn(10) {
	case 0:
		return op(api.TAdd, in(), in(), in())
	case 1:
		return op(api.TSub, in(), in())
	case 2:
		return op(api.TNeg, in())
	case 3:
		return op(api.TMul, count(m.Intn(7)-3), in())
	case 4:
		return op(api.TIte, m.formula(deep-1), in(), in())
	case 5:
		return app("k", m.object(deep-1))
	case 6:
		return app("d", in(), in())
	case 7:
		return app("t", m.formula(deep-1))
	}
	return app("f", in())
}

func (m maker) object(deep int) api.Term {
	if deep <= 0 || m.Intn(4) == 0 {
		return m.of(app("o"), app("u"), app("w"))
	}
	in := func() api.Term { return m.object(deep - 1) }
	switch m.Intn(6) {
	case 0:
		return app("gb", m.formula(deep-1))
	case 1:
		return app("gi", m.number(deep-1))
	case 2:
		return op(api.TIte, m.formula(deep-1), in(), in())
	case 3:
		return app("mixed", m.number(deep-1), m.formula(deep-1), in())
	case 4:
		return app("m", in(), in())
	}
	return app("g", in())
}

func (m maker) atom(deep int) api.Term {
	switch m.Intn(8) {
	case 0:
		return m.of(app("p"), app("q"), app("r"), app("s"))
	case 1:
		return atMost(m.number(deep), m.number(deep))
	case 2:
		return less(m.number(deep), m.number(deep))
	case 3, 4:
		return same(m.number(deep), m.number(deep))
	case 5:
		return same(m.object(deep), m.object(deep))
	case 6:
		return app("h", m.object(deep))
	}
	return app("hi", m.number(deep), m.formula(deep-1))
}

func (m maker) formula(deep int) api.Term {
	if deep <= 0 || m.Intn(3) == 0 {
		return m.atom(max(0, deep-1))
	}
	in := func() api.Term { return m.formula(deep - 1) }
	switch m.Intn(8) {
	case 0:
		return not(in())
	case 1:
		return op(api.TAnd, in(), in())
	case 2:
		return op(api.TOr, in(), in())
	case 3:
		return op(api.TImp, in(), in())
	case 4:
		return op(api.TIff, in(), in())
	case 5:
		return same(in(), in())
	case 6:
		return op(api.TIte, in(), in(), in())
	}
	return m.atom(deep - 1)
}

func (m maker) formulas(most, deep int) []api.Term {
	var out []api.Term
	for range 1 + m.Intn(most) {
		out = append(out, m.formula(deep))
	}
	return out
}

// value tells a value's text.
func (m maker) value(sort, objects int) string {
	switch sort {
	case ints:
		return strconv.Itoa(m.Intn(7) - 3)
	case bools:
		return strconv.FormatBool(m.Intn(2) == 0)
	}
	return "#" + strconv.Itoa(m.Intn(objects))
}

// structure tells a model of all functions.
func (m maker) structure() api.Model {
	out := api.Model{Objs: 1 + m.Intn(3)}
	var seen []string
	for _, f := range sigOf() {
		if slices.Contains(seen, f.Name) {
			continue
		}
		seen = append(seen, f.Name)
		t := api.Table{Name: f.Name, Else: m.value(f.Out, out.Objs)}
		for range 5 * len(f.Args) {
			r := api.Row{Out: m.value(f.Out, out.Objs)}
			for _, sort := range f.Args {
				r.Args = append(r.Args, m.value(sort, out.Objs))
			}
			t.Rows = append(t.Rows, r)
		}
		out.Tables = append(out.Tables, t)
	}
	return out
}

// span: where a list lies.
type span struct{ from, to uintptr }

// spans tells where all lists in v lie, the room behind them included.
func spans(v reflect.Value) []span {
	var out []span
	switch v.Kind() {
	case reflect.Slice:
		if v.Cap() > 0 {
			out = append(out, span{v.Pointer(), v.Pointer() + uintptr(v.Cap())*v.Type().Elem().Size()})
		}
		for i := range v.Cap() {
			out = append(out, spans(v.Slice(0, v.Cap()).Index(i))...)
		}
	case reflect.Struct:
		for i := range v.NumField() {
			out = append(out, spans(v.Field(i))...)
		}
	}
	return out
}

// shared tells whether two lists of an answer share memory, or one with what was handed in.
func shared(answer any, given ...any) bool {
	own := spans(reflect.ValueOf(answer))
	slices.SortFunc(own, func(a, b span) int { return cmp.Compare(a.from, b.from) })
	for i := 1; i < len(own); i++ {
		if own[i].from < own[i-1].to {
			return true
		}
	}
	for _, x := range given {
		for _, s := range spans(reflect.ValueOf(x)) {
			if slices.ContainsFunc(own, func(o span) bool { return o.from < s.to && s.from < o.to }) {
				return true
			}
		}
	}
	return false
}

// draw writes all that stands in v, the room behind its lists included.
func draw(out *strings.Builder, v reflect.Value) {
	switch v.Kind() {
	case reflect.Slice:
		out.WriteString("[" + strconv.Itoa(v.Len()))
		for i := range v.Cap() {
			draw(out, v.Slice(0, v.Cap()).Index(i))
		}
		out.WriteString("]")
	case reflect.Struct:
		for i := range v.NumField() {
			draw(out, v.Field(i))
		}
	case reflect.Int:
		out.WriteString(strconv.FormatInt(v.Int(), 10) + ",")
	default:
		out.WriteString(strconv.Quote(v.String()))
	}
}

// picture tells all that stands in several things.
func picture(l ...any) string {
	var out strings.Builder
	for _, x := range l {
		draw(&out, reflect.ValueOf(x))
	}
	return out.String()
}

// garbage tells terms with something in each field that their operators don't name, and spare room behind their lists.
func garbage(l []api.Term) []api.Term {
	out := make([]api.Term, 0, len(l)+2)
	for _, t := range l {
		x := api.Term{Op: t.Op, Name: "junk", Sort: 77, N: "junk", L: garbage(t.L), Vars: bounds(5, "junk"), Pat: terms(variable("junk", 3))}
		switch t.Op {
		case api.TNum:
			x.N = t.N
		case api.TApp:
			x.Name = t.Name
		case api.TVar:
			x.Name, x.Sort = t.Name, t.Sort
		case api.TAll:
			x.Vars, x.Pat = append(slices.Clone(t.Vars), api.Bound{Name: "spare", Sort: 6})[:len(t.Vars)], garbage(t.Pat)
		}
		out = append(out, x)
	}
	return append(out, variable("spare", 1), op(-5, app("f")))[:len(l)]
}
