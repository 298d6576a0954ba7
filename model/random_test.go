package model

import (
	"math/big"
	"math/rand"
	"slices"
	"strconv"
	"testing"

	"avow/api"
	"avow/term"
)

// slow: the chapter's words, one by one, without anything kept: what a term is worth with the objects that are bound.
type slow struct {
	m     api.Model
	bound map[string]int
}

func (s slow) objects() int { return min(max(s.m.Objs, 0), 1000) }

// canBeAsked tells whether no TAll in t binds anything but objects, or asks more lists than may be.
func (s slow) canBeAsked(t api.Term) bool {
	lists := big.NewInt(1)
	for _, v := range t.Vars {
		if v.Sort != objs {
			return false
		}
		lists.Mul(lists, big.NewInt(int64(s.objects())))
	}
	if lists.Cmp(big.NewInt(1<<16)) > 0 {
		return false
	}
	return !slices.ContainsFunc(t.L, func(x api.Term) bool { return !s.canBeAsked(x) })
}

func (s slow) value(t api.Term) (string, bool) {
	switch t.Op {
	case api.TAll:
		return s.all(t, t.Vars)
	case api.TVar:
		return "#" + strconv.Itoa(s.bound[t.Name]), true
	case api.TNum:
		return t.N, true
	}
	var l []string
	for _, x := range t.L {
		v, ok := s.value(x)
		if !ok {
			return "", false
		}
		l = append(l, v)
	}
	if t.Op == api.TApp {
		return s.app(t.Name, l)
	}
	return operator(t.Op, l), true
}

func (s slow) all(t api.Term, vars []api.Bound) (string, bool) {
	if len(vars) == 0 {
		return s.value(t.L[0])
	}
	out := "true"
	outer, had := s.bound[vars[0].Name]
	for o := range s.objects() {
		s.bound[vars[0].Name] = o
		v, ok := s.all(t, vars[1:])
		if !ok {
			return "", false
		}
		if v == "false" {
			out = v
		}
	}
	delete(s.bound, vars[0].Name)
	if had {
		s.bound[vars[0].Name] = outer
	}
	return out, true
}

func (s slow) app(name string, l []string) (string, bool) {
	out := ""
	i := slices.IndexFunc(s.m.Tables, func(t api.Table) bool { return t.Name == name })
	if i >= 0 {
		t := s.m.Tables[i]
		out = t.Else
		if r := slices.IndexFunc(t.Rows, func(r api.Row) bool { return slices.Equal(r.Args, l) }); r >= 0 {
			out = t.Rows[r].Out
		}
	}
	sig := sigOf()
	switch sig[slices.IndexFunc(sig, func(f api.Fun) bool { return f.Name == name })].Out {
	case ints:
		n, ok := new(big.Int).SetString(out, 10)
		return out, ok && n.String() == out
	case bools:
		return out, out == "true" || out == "false"
	}
	for o := range s.objects() {
		if out == "#"+strconv.Itoa(o) {
			return out, true
		}
	}
	return "", false
}

func operator(o int, l []string) string {
	var n []*big.Int
	for _, x := range l {
		if v, ok := new(big.Int).SetString(x, 10); ok {
			n = append(n, v)
		}
	}
	said := func(b bool) string { return strconv.FormatBool(b) }
	z := new(big.Int)
	switch o {
	case api.TTrue, api.TFalse:
		return said(o == api.TTrue)
	case api.TNot:
		return said(l[0] == "false")
	case api.TAnd:
		return said(!slices.Contains(l, "false"))
	case api.TOr:
		return said(slices.Contains(l, "true"))
	case api.TImp:
		return said(l[0] == "false" || l[1] == "true")
	case api.TIff, api.TEq:
		return said(l[0] == l[1])
	case api.TLe:
		return said(n[0].Cmp(n[1]) <= 0)
	case api.TLt:
		return said(n[0].Cmp(n[1]) < 0)
	case api.TSub:
		return z.Sub(n[0], n[1]).String()
	case api.TNeg:
		return z.Neg(n[0]).String()
	case api.TMul:
		return z.Mul(n[0], n[1]).String()
	case api.TIte:
		return map[string]string{"true": l[1], "false": l[2]}[l[0]]
	}
	for _, x := range n {
		z.Add(z, x)
	}
	return z.String()
}

// maker makes terms that term.Check takes with sigOf, and models.
type maker struct {
	r     *rand.Rand
	bound []api.Bound
}

func (m *maker) pick(l ...string) string { return l[m.r.Intn(len(l))] }

func (m *maker) of(sort, deep int) api.Term {
	if deep <= 0 || m.r.Intn(7) == 0 {
		return m.leaf(sort)
	}
	in := func(sort int) api.Term { return m.of(sort, deep-1) }
	if m.r.Intn(9) == 0 {
		return op(api.TIte, in(bools), in(sort), in(sort))
	}
	switch sort {
	case ints:
		return []func() api.Term{
			func() api.Term { return op(api.TAdd, m.several(ints, deep)...) },
			func() api.Term { return op(api.TSub, in(ints), in(ints)) },
			func() api.Term { return op(api.TNeg, in(ints)) },
			func() api.Term {
				return op(api.TMul, numeral(m.pick("0", "2", "-1", "1000000000000000000000")), in(ints))
			},
			func() api.Term { return app("f", in(ints)) },
			func() api.Term { return app("k", in(ints), in(objs)) },
			func() api.Term { return app("r", in(bools)) },
		}[m.r.Intn(7)]()
	case objs:
		return app("g", in(objs))
	}
	return []func() api.Term{
		func() api.Term { return op(api.TNot, in(bools)) },
		func() api.Term { return op(api.TAnd, m.several(bools, deep)...) },
		func() api.Term { return op(api.TOr, m.several(bools, deep)...) },
		func() api.Term { return op(api.TImp, in(bools), in(bools)) },
		func() api.Term { return op(api.TIff, in(bools), in(bools)) },
		func() api.Term { s := 1 + m.r.Intn(3); return same(in(s), in(s)) },
		func() api.Term { return op(api.TLe, in(ints), in(ints)) },
		func() api.Term { return op(api.TLt, in(ints), in(ints)) },
		func() api.Term { return app("h", in(ints), in(bools)) },
		func() api.Term { return app("s", in(objs), in(objs)) },
		func() api.Term { return m.all(deep) },
		func() api.Term { return m.all(deep) },
	}[m.r.Intn(12)]()
}

func (m *maker) several(sort, deep int) []api.Term {
	out := make([]api.Term, m.r.Intn(4))
	for i := range out {
		out[i] = m.of(sort, deep-1)
	}
	return out
}

func (m *maker) leaf(sort int) api.Term {
	for _, v := range slices.Backward(m.bound) {
		if v.Sort == sort && m.innermost(v) && m.r.Intn(2) == 0 {
			return variable(v.Name, v.Sort)
		}
	}
	switch sort {
	case ints:
		return []api.Term{app("a"), app("b"), numeral("0"), numeral("-7"), numeral("1")}[m.r.Intn(5)]
	case bools:
		return []api.Term{app("p"), app("q"), op(api.TTrue), op(api.TFalse)}[m.r.Intn(4)]
	}
	return app(m.pick("o", "u"))
}

// innermost tells whether no other variable is bound within v that has its name.
func (m *maker) innermost(v api.Bound) bool {
	for _, w := range slices.Backward(m.bound) {
		if w.Name == v.Name {
			return w == v
		}
	}
	return false
}

func (m *maker) all(deep int) api.Term {
	var vars []api.Bound
	for _, i := range m.r.Perm(4)[:1+m.r.Intn(2)] {
		sort := objs
		if m.r.Intn(100) == 0 {
			sort = 1 + m.r.Intn(2)
		}
		vars = append(vars, api.Bound{Name: string(rune('w' + i)), Sort: sort})
	}
	outer := len(m.bound)
	m.bound = append(m.bound, vars...)
	body := m.of(bools, deep-1)
	m.bound = m.bound[:outer]
	return all(vars, body)
}

// text tells the text of a value, or, rarely, of what is none.
func (m *maker) text(sort, objects int) string {
	if m.r.Intn(400) == 0 {
		return m.pick("", "01", "x", "#9", "true", "5")
	}
	switch sort {
	case ints:
		return m.pick("0", "1", "5", "-7", "99999999999999999999")
	case bools:
		return m.pick("true", "false")
	}
	return "#" + strconv.Itoa(m.r.Intn(max(objects, 1)))
}

func (m *maker) model() api.Model {
	out := api.Model{Objs: m.r.Intn(5)}
	for _, f := range sigOf() {
		if m.r.Intn(150) == 0 {
			continue
		}
		t := api.Table{Name: f.Name, Else: m.text(f.Out, out.Objs)}
		for range m.r.Intn(8) {
			r := api.Row{Out: m.text(f.Out, out.Objs)}
			for _, sort := range f.Args {
				r.Args = append(r.Args, m.text(sort, out.Objs))
			}
			t.Rows = append(t.Rows, r)
		}
		out.Tables = append(out.Tables, t)
	}
	return out
}

func TestRandomTerms(t *testing.T) {
	m := maker{r: rand.New(rand.NewSource(4))}
	met := map[string]int{}
	for range 10000 {
		structure, x := m.model(), m.of(1+m.r.Intn(3), 7)
		if m.r.Intn(2) == 0 {
			x = m.all(7)
		}
		s := slow{structure, map[string]int{}}
		want, wanted := "", noAll
		if s.canBeAsked(x) {
			v, ok := s.value(x)
			want, wanted = v, api.OK
			if !ok {
				want, wanted = "", noValue
			}
		}
		got, e := Value(sigOf(), structure, x)
		if got != want || e != wanted {
			t.Fatalf("P4.1: Value of %s in %v: %q, %v, wanted %q, %v", term.Text(x), structure, got, e, want, wanted)
		}
		met[strconv.Itoa(x.Op)+got+e.Error()]++
		if holds, e := Holds(sigOf(), structure, []api.Term{op(api.TEq, x, x), op(api.TTrue)}); holds != (wanted == api.OK) || e != wanted {
			t.Fatalf("P4.2: Holds of %s with itself: %v, %v", term.Text(x), holds, e)
		}
	}
	for _, kind := range []string{"true" + api.OK.Error(), "false" + api.OK.Error(), noAll.Error(), noValue.Error()} {
		if met[strconv.Itoa(api.TAll)+kind] < 100 {
			t.Errorf("TAlls with %s: only %d", kind, met[strconv.Itoa(api.TAll)+kind])
		}
	}
}
