package cert_test

import (
	"cmp"
	"math/rand"
	"reflect"
	"slices"
	"strconv"
	"strings"
	"testing"

	"avow/api"
	"avow/cert"
)

// garbage tells t with something in each field that its operator doesn't name, and spare room behind its lists.
func garbage(t api.Term) api.Term {
	out := api.Term{Op: t.Op, Name: "junk", Sort: 77, N: "junk", Vars: []api.Bound{{Name: "junk", Sort: 5}}, Pat: terms(variable("junk", 3))}
	switch t.Op {
	case api.TNum:
		out.N = t.N
	case api.TApp:
		out.Name = t.Name
	case api.TVar:
		out.Name, out.Sort = t.Name, t.Sort
	case api.TAll:
		out.Vars = append(slices.Clone(t.Vars), api.Bound{Name: "spare", Sort: 6})[:len(t.Vars)]
		out.Pat = withSpare(t.Pat)
	}
	out.L = withSpare(t.L)
	return out
}

func withSpare(l []api.Term) []api.Term {
	out := make([]api.Term, 0, len(l)+2)
	for _, x := range l {
		out = append(out, garbage(x))
	}
	return append(out, variable("spare", 1), op(-5, app("f")))[:len(l)]
}

// whole tells l with all fields and the spare room behind its lists, in memory of its own.
func whole(l []api.Term) []api.Term {
	out := slices.Clone(l[:cap(l)])
	for i := range out {
		out[i].L, out[i].Pat, out[i].Vars = whole(out[i].L), whole(out[i].Pat), slices.Clone(out[i].Vars[:cap(out[i].Vars)])
	}
	return out
}

func roomyClause(c []api.Lit) []api.Lit {
	out := make([]api.Lit, 0, len(c)+2)
	for _, l := range c {
		out = append(out, api.Lit{Neg: l.Neg, Atom: garbage(l.Atom)})
	}
	return append(out, neg(app("spare")), pos(yes()))[:len(c)]
}

// roomy tells x in other memory, with something in fields that say nothing, and spare room behind all lists.
func roomy(x api.Line) api.Line {
	out := api.Line{Kind: x.Kind, I: x.I, Clause: roomyClause(x.Clause), Terms: withSpare(x.Terms), F: roomyFarkas(x.F)}
	if x.Kind != api.LineInput {
		out.I = 77
	}
	if x.Kind != api.LineInst && x.Kind != api.LineIte && x.Kind != api.LineTri {
		out.Terms = append(out.Terms, variable("junk", 1))
	}
	if x.Kind != api.LineLia {
		out.F = sum("junk")
	}
	return out
}

func roomyFarkas(f api.Farkas) api.Farkas {
	f.Sum = append(slices.Clone(f.Sum), "spare")[:len(f.Sum)]
	f.Row.C = append(slices.Clone(f.Row.C), api.Coef{Name: "spare"})[:len(f.Row.C)]
	l := make([]api.Farkas, 0, len(f.L)+1)
	for _, x := range f.L {
		l = append(l, roomyFarkas(x))
	}
	f.L = append(l, sum("spare"))[:len(l)]
	return f
}

// draw writes all that stands in v, the room behind its lists included.
func draw(out *strings.Builder, v reflect.Value) {
	switch v.Kind() {
	case reflect.Slice:
		whole := v.Slice(0, v.Cap())
		out.WriteString("[" + strconv.Itoa(v.Len()))
		for i := range whole.Len() {
			draw(out, whole.Index(i))
		}
		out.WriteString("]")
	case reflect.Struct:
		for i := range v.NumField() {
			draw(out, v.Field(i))
		}
	case reflect.Bool:
		out.WriteString(strconv.FormatBool(v.Bool()))
	case reflect.Int:
		out.WriteString(strconv.FormatInt(v.Int(), 10) + ",")
	default:
		out.WriteString(strconv.Quote(v.String()))
	}
}

// pictures tells all that stands in several things.
func pictures(l ...any) string {
	var out strings.Builder
	for _, x := range l {
		draw(&out, reflect.ValueOf(x))
	}
	return out.String()
}

// span: where a list lies.
type span struct{ from, to uintptr }

// spans tells where all lists in v lie, the room behind them included.
func spans(v reflect.Value) []span {
	var out []span
	switch v.Kind() {
	case reflect.Slice:
		if v.Cap() > 0 {
			out = append(out, span{v.Pointer(), v.Pointer() + uintptr(v.Cap())*v.Type().Elem().Size()})
		}
		for i := range v.Cap() {
			out = append(out, spans(v.Slice(0, v.Cap()).Index(i))...)
		}
	case reflect.Struct:
		for i := range v.NumField() {
			out = append(out, spans(v.Field(i))...)
		}
	}
	return out
}

// shared tells whether two lists of an answer share memory, or one with what was handed in.
func shared(answer any, given ...any) bool {
	own := spans(reflect.ValueOf(answer))
	slices.SortFunc(own, func(a, b span) int { return cmp.Compare(a.from, b.from) })
	for i := 1; i < len(own); i++ {
		if own[i].from < own[i-1].to {
			return true
		}
	}
	for _, x := range given {
		for _, s := range spans(reflect.ValueOf(x)) {
			if slices.ContainsFunc(own, func(o span) bool { return o.from < s.to && s.from < o.to }) {
				return true
			}
		}
	}
	return false
}

// TestHold: the same for the same, be there what may in fields that say nothing; nothing is changed; answers are new memory, zero in fields that say nothing.
func TestHold(t *testing.T) {
	proved(15, 8, func(m maker, l []api.Term, c []api.Line) {
		sig := append(sigOf(), api.Fun{Name: "spare"})[:len(sigOf())]
		given := withSpare(l)
		var lines []api.Line
		var have [][]api.Lit
		for _, x := range c {
			lines = append(lines, roomy(x))
		}
		before := pictures(sig, given, lines)
		for range 2 {
			if n, e := cert.Check(sig, given, lines); n != len(c) || e != api.OK {
				t.Fatalf("P12.3: %d, %v", n, e)
			}
		}
		for i, x := range lines {
			ahead := pictures(have)
			got, e := cert.Line(sig, given, have, x)
			want := c[i].Clause
			if x.Kind == api.LineInput {
				want = lits(pos(l[x.I]))
			}
			if e != api.OK || !reflect.DeepEqual(got, want) && len(want) > 0 {
				t.Fatalf("P12.1: %d %s: %s, %v", x.Kind, text(x.Clause), text(got), e)
			}
			if shared(got, given, have, x) {
				t.Fatalf("P12.1: %d %s: the answer shares memory", x.Kind, text(x.Clause))
			}
			if pictures(have) != ahead {
				t.Fatal("P12.1: what is ahead was changed")
			}
			have = append(have, roomyClause(got))
		}
		if pictures(sig, given, lines) != before {
			t.Fatal("P12.1, P12.3: what was handed in was changed")
		}
	})
}

// TestSharedLists: an answer shares none, though what was handed in does.
func TestSharedLists(t *testing.T) {
	y := variable("y", objs)
	l := many(2, app("h", y))
	forall := all("y", op(api.TAnd, l...), l...)
	both := op(api.TOr, forall, forall)
	c := lits(pos(both), neg(both))
	got, e := cert.Line(sigOf(), nil, nil, taut(c...))
	if e != api.OK || !reflect.DeepEqual(got, c) || shared(got, c) {
		t.Errorf("P12.1: %s, %v", text(got), e)
	}
	got, e = cert.Line(sigOf(), terms(both), nil, input(0))
	if e != api.OK || !reflect.DeepEqual(got, c[:1]) || shared(got, c) {
		t.Errorf("P12.1: %s, %v", text(got), e)
	}
}

// endless tells a term whose list contains itself, at its n-th place.
func endless(o, n int) api.Term {
	l := many(n, app("a"))
	l[n-1] = api.Term{Op: o, Name: "f", L: l}
	return l[n-1]
}

// doubled tells an operator of two that are one list, n times over.
func doubled(o, n int, t api.Term) api.Term {
	for range n {
		t = api.Term{Op: o, Name: "f", L: terms(t, t)}
	}
	return t
}

func chain(o, n int, t api.Term) api.Term {
	for range n {
		t = api.Term{Op: o, Name: "f", L: terms(t)}
	}
	return t
}

// TestEnds: calls end, of lists that contain themselves, and of terms deeper than anything is promised of.
func TestEnds(t *testing.T) {
	a, p := app("a"), app("p")
	hostile := terms(endless(api.TNot, 1), endless(api.TAnd, 3), endless(api.TAdd, 50), endless(api.TIte, 2), endless(api.TApp, 2), endless(99, 1), chain(api.TNot, 200000, p), chain(api.TNeg, 200000, a), doubled(api.TAdd, 200000, a), doubled(api.TAnd, 60, p), doubled(api.TApp, 200, a), chain(api.TApp, 1<<16, a), chain(api.TApp, 1<<16+1, a))
	for _, h := range terms(endless(api.TAll, 1), endless(api.TAll, 2)) {
		h.Vars, h.Pat = []api.Bound{{Name: "x", Sort: ints}}, h.L
		hostile = append(hostile, h, all("x", p, h), all("x", h, app("f", variable("x", ints))))
	}
	for i, h := range hostile {
		clause := lits(pos(p), neg(p), api.Lit{Neg: i%2 == 0, Atom: []api.Term{h, same(h, a), less(h, h)}[i%3]})
		for kind := range 10 {
			refuses(t, terms(p), nil, api.Line{Kind: kind, Clause: clause})
		}
		refuses(t, terms(h), [][]api.Lit{{pos(p)}, {neg(h)}}, follows(neg(p)))
		takes(t, terms(h), [][]api.Lit{{pos(h)}, {neg(h), pos(p)}, {pos(p), pos(p)}}, follows(pos(p)))
		checks(t, "hostile", terms(h), []api.Line{taut(pos(p), neg(p)), taut(clause...)}, 1, api.ErrCertLine)
		refuses(t, terms(h), nil, input(0))
		pick := ite(p, h, h)
		refuses(t, nil, nil, choice(pick, neg(p), pos(same(a, a))))
		refuses(t, nil, nil, choice(h, neg(p), pos(same(a, a))))
		refuses(t, nil, nil, three(a, h, pos(same(a, a)), pos(less(a, a)), pos(less(a, a))))
		forall := all("x", less(variable("x", ints), a), app("f", variable("x", ints)))
		refuses(t, nil, nil, inst(lits(neg(forall), pos(less(a, a))), h))
		cert.Rows(lits(neg(same(h, a)), pos(less(a, h)), neg(atMost(h, h))))
		cert.Rows(lits(neg(atMost(op(api.TMul, h, a), op(api.TMul, numeral("2"), h)))))
		// Fields that say nothing aren't looked at.
		quiet := app("p")
		quiet.Pat = h.L
		takes(t, terms(quiet), [][]api.Lit{{pos(p)}}, follows(pos(quiet)))
		takes(t, terms(quiet), nil, input(0))
		if t.Failed() {
			t.Fatalf("of %d", i)
		}
	}
}

// TestDeepAhead: what is ahead may be as deep as anything is promised of, and shared.
func TestDeepAhead(t *testing.T) {
	p := app("p")
	deep, shared := chain(api.TNot, 10000, p), doubled(api.TAnd, 60, p)
	again := doubled(api.TAnd, 60, p)
	takes(t, nil, [][]api.Lit{{pos(deep)}, {neg(chain(api.TNot, 10000, p)), pos(p)}}, follows(pos(p)))
	refuses(t, nil, [][]api.Lit{{pos(deep)}, {neg(chain(api.TNot, 9999, p)), pos(p)}}, follows(pos(p)))
	takes(t, nil, [][]api.Lit{{pos(shared)}, {neg(again), pos(p)}}, follows(pos(p)))
	refuses(t, nil, [][]api.Lit{{pos(shared)}, {neg(again.L[0]), pos(p)}}, follows(pos(p)))
	// A part of what is too deep isn't, where it stands alone.
	parts := []api.Term{p}
	for range 1<<16 + 100 {
		parts = append(parts, not(parts[len(parts)-1]))
	}
	takes(t, nil, [][]api.Lit{{pos(parts[1<<16+100])}, {pos(parts[5000])}, {neg(parts[5000]), pos(p)}}, follows(pos(p)))
}

// TestDeepRows: sides may be as deep as anything is promised of, and shared.
func TestDeepRows(t *testing.T) {
	a, zero := app("a"), numeral("0")
	tells(t, "1 a <= 0", neg(atMost(chain(api.TNeg, 9998, a), zero)))
	tells(t, "-1 a <= 0", neg(atMost(chain(api.TNeg, 9997, a), zero)))
	// Products of products: as deep as package term takes them, and deeper.
	great, nines := op(api.TSub, a, a), strings.Repeat("9", 400)
	for range 196 {
		great = op(api.TMul, numeral(nines), great)
	}
	tells(t, "<= 0", neg(atMost(great, zero)))
	great = a
	for range 9000 {
		great = op(api.TMul, numeral(nines), great)
	}
	tellsNone(t, neg(atMost(great, zero)))
	tells(t, "1048576 a <= 0", neg(atMost(doubled(api.TAdd, 20, a), zero)))
	tells(t, "<= 0", neg(atMost(doubled(api.TSub, 20, a), zero)))
	picks := zero
	for range 9999 {
		picks = op(api.TIte, picks)
	}
	tellsNone(t, neg(same(picks, a)))
	picks = yes()
	for range 9999 {
		picks = op(api.TIte, picks)
	}
	tells(t, "", neg(same(picks, a)))
}

// TestGreat: a long certificate is gone through in time.
func TestGreat(t *testing.T) {
	const n = 20000
	r := rand.New(rand.NewSource(16))
	p := func(i int) api.Term { return atMost(app("a"), numeral(strconv.Itoa(i))) }
	l := terms(p(0), not(p(n)))
	c := []api.Line{input(0), input(1), taut(neg(l[1]), neg(p(n)))}
	for i := range n {
		c = append(c, arithmetic(sum("1", "1"), neg(p(i)), pos(p(i+1))))
	}
	for i := range n {
		c = append(c, follows(pos(p(i+1)), pos(p(r.Intn(n)))))
	}
	c = append(c, follows())
	checks(t, "a long one", l, c, len(c), api.OK)
	checks(t, "a long one without its end", l, c[:len(c)-1], len(c)-1, api.ErrCertEnd)
	c[n/2].Clause = c[n/2].Clause[1:]
	checks(t, "a long one with a wrong line", l, c, n/2, api.ErrCertLine)
}
