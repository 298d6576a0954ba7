package norm_test

import (
	"math/rand"
	"slices"
	"strconv"
	"testing"

	"avow/api"
	"avow/norm"
	"avow/show"
)

// maker makes programs that are checked.
type maker struct {
	*rand.Rand
	cells   []string
	defs    []api.Decl // what can be called
	binders []binder
	may     effect
	own     string // the definition that calls itself, with less in its first argument
	ensures bool
	formula bool
}

type binder struct {
	name string
	kind int
}

// effect: what is allowed where expressions are made.
type effect struct{ cells, raises, endless bool }

var mayDo = map[int]effect{api.EfPure: {}, api.EfState: {cells: true}, api.EfExn: {raises: true}, api.EfAll: {cells: true, raises: true}, api.EfDiv: {true, true, true}}

func (m *maker) kind() int { return 1 + m.Intn(3) }

func (m *maker) program() []api.Decl {
	var out []api.Decl
	for i := range 2 + m.Intn(5) {
		name := "g" + strconv.Itoa(i)
		if m.Intn(5) == 0 {
			out = append(out, api.Decl{Cell: true, Name: name, N: "3"})
			m.cells = append(m.cells, name)
		} else {
			out = append(out, m.definition(name))
		}
	}
	return out
}

// definition makes one; what calls itself ends, as its first parameter gets less.
func (m *maker) definition(name string) api.Decl {
	out := api.Decl{Name: name, Effect: api.EfPure, Rec: m.Intn(2) == 0, T: api.Type{Kind: m.kind()}, Result: "r"}
	if m.Intn(2) == 0 {
		out.Effect = api.EfPure + m.Intn(5)
	}
	m.binders = nil
	for i := range m.Intn(4) + number(out.Rec) {
		kind := m.kind()
		if out.Rec && i == 0 {
			kind = api.TyInt
		}
		p := api.Param{Name: "p" + strconv.Itoa(i), T: api.Type{Kind: kind}}
		out.Params = append(out.Params, p)
		m.binders = append(m.binders, binder{p.Name, kind})
	}
	m.contract(&out)
	m.may = mayDo[out.Effect]
	if out.Rec {
		m.defs, m.own = append(m.defs, out), name
	}
	out.Body = m.expr(out.T.Kind, 4)
	if out.Rec {
		end := api.Expr{Op: api.ELe, L: []api.Expr{{Op: api.EVar, Name: "p0"}, num("0")}}
		out.Body = of(api.EIf, end, m.literal(out.T.Kind), out.Body)
		m.defs, m.own = m.defs[:len(m.defs)-1], ""
	}
	m.defs = append(m.defs, out)
	return out
}

func number(b bool) int {
	if b {
		return 1
	}
	return 0
}

// contract makes a postcondition, so that there is old in it, and a measure.
func (m *maker) contract(d *api.Decl) {
	m.formula, m.may = true, effect{cells: mayDo[d.Effect].cells}
	if m.Intn(3) == 0 {
		was := m.binders
		m.binders = append(slices.Clone(was), binder{"r", d.T.Kind})
		m.ensures = true
		d.Ensures = []api.Expr{m.expr(api.TyBool, 3)}
		m.binders, m.ensures = was, false
	}
	if d.Rec && d.Effect != api.EfDiv {
		d.Measure = []api.Expr{m.expr(api.TyInt, 1)}
	}
	m.formula = false
}

// operators tells the operators that can make a kind.
func operators(kind int) []int {
	out := []int{api.EVar, api.EVar, api.ECall, api.ECall, api.EIf, api.ELet, api.ESeq, api.ETry}
	switch kind {
	case api.TyInt:
		return append(out, api.ENum, api.ERead, api.EOld, api.ENeg, api.EMul, api.EAdd, api.ESub, api.ERaise)
	case api.TyBool:
		return append(out, api.EBool, api.ENot, api.EEq, api.ENe, api.ELt, api.ELe, api.EGt, api.EGe, api.EAnd, api.EOr, api.EImp)
	}
	return append(out, api.EUnit, api.EWrite, api.EAssert)
}

// literal tells a value of that kind.
func (m *maker) literal(kind int) api.Expr {
	switch kind {
	case api.TyInt:
		return api.Expr{Op: api.ENum, N: strconv.Itoa(m.Intn(4))}
	case api.TyBool:
		return api.Expr{Op: api.EBool, B: m.Intn(2) == 0}
	}
	return api.Expr{Op: api.EUnit}
}

func (m *maker) expr(kind, depth int) api.Expr {
	ops := operators(kind)
	op := ops[m.Intn(len(ops))]
	if depth <= 0 && op > api.EOld || !m.allowed(op) {
		return m.literal(kind)
	}
	switch op {
	case api.EVar:
		return m.variable(kind)
	case api.ERead, api.EOld, api.EWrite:
		return m.cell(op, depth)
	case api.ECall:
		return m.call(kind, depth)
	case api.ELet, api.ETry:
		return m.binding(op, kind, depth)
	case api.ENum, api.EBool, api.EUnit:
		return m.literal(kind)
	}
	out := api.Expr{Op: op}
	for _, k := range m.operands(op, kind) {
		out.L = append(out.L, m.expr(k, depth-1))
	}
	if op == api.EMul {
		out.L[m.Intn(2)] = []api.Expr{num("2"), num("-3"), num("0"), num("-0")}[m.Intn(4)]
	}
	return out
}

// allowed tells whether an operator may stand where expressions are being made.
func (m *maker) allowed(op int) bool {
	switch op {
	case api.ERead:
		return m.may.cells
	case api.EOld:
		return m.may.cells && m.ensures
	case api.EWrite:
		return m.may.cells && !m.formula
	case api.ERaise:
		return m.may.raises && !m.formula
	case api.EAssert, api.ESeq, api.ETry:
		return !m.formula
	}
	return true
}

func (m *maker) operands(op, kind int) []int {
	switch op {
	case api.ENeg, api.ERaise:
		return []int{api.TyInt}
	case api.ENot, api.EAssert:
		return []int{api.TyBool}
	case api.EMul, api.EAdd, api.ESub, api.ELt, api.ELe, api.EGt, api.EGe:
		return []int{api.TyInt, api.TyInt}
	case api.EEq, api.ENe:
		k := 1 + m.Intn(2)
		return []int{k, k}
	case api.EIf:
		return []int{api.TyBool, kind, kind}
	case api.ESeq:
		return []int{m.kind(), kind}
	}
	return []int{api.TyBool, api.TyBool}
}

func (m *maker) variable(kind int) api.Expr {
	var names, hidden []string
	for _, b := range slices.Backward(m.binders) {
		if !slices.Contains(hidden, b.name) && b.kind == kind {
			names = append(names, b.name)
		}
		hidden = append(hidden, b.name)
	}
	if len(names) == 0 {
		return m.literal(kind)
	}
	return api.Expr{Op: api.EVar, Name: names[m.Intn(len(names))]}
}

func (m *maker) cell(op, depth int) api.Expr {
	if len(m.cells) == 0 {
		return m.literal(map[int]int{api.ERead: api.TyInt, api.EOld: api.TyInt, api.EWrite: api.TyUnit}[op])
	}
	out := api.Expr{Op: op, Name: m.cells[m.Intn(len(m.cells))]}
	if op == api.EWrite {
		out.L = []api.Expr{m.expr(api.TyInt, depth-1)}
	}
	return out
}

func (m *maker) call(kind, depth int) api.Expr {
	var callable []api.Decl
	for _, d := range m.defs {
		does := mayDo[d.Effect]
		if d.T.Kind == kind && (d.Effect == api.EfPure || !m.formula && (m.may.cells || !does.cells) && (m.may.raises || !does.raises) && (m.may.endless || !does.endless)) {
			callable = append(callable, d)
		}
	}
	if len(callable) == 0 {
		return m.literal(kind)
	}
	d := callable[m.Intn(len(callable))]
	out := api.Expr{Op: api.ECall, Name: d.Name}
	for i, p := range d.Params {
		arg := m.literal(p.T.Kind)
		if m.Intn(2) == 0 {
			arg = m.expr(p.T.Kind, depth-1)
		}
		if i == 0 && d.Name == m.own {
			arg = of(api.ESub, api.Expr{Op: api.EVar, Name: "p0"}, num(strconv.Itoa(1+m.Intn(2))))
		}
		out.L = append(out.L, arg)
	}
	return out
}

func (m *maker) binding(op, kind, depth int) api.Expr {
	was, may := m.binders, m.may
	name := "x" + strconv.Itoa(m.Intn(3))
	bound, first := api.TyInt, kind
	if op == api.ELet {
		bound = m.kind()
		first = bound
	}
	m.may.raises = m.may.raises || op == api.ETry
	out := api.Expr{Op: op, Name: name, L: []api.Expr{m.expr(first, depth-1)}}
	m.may = may
	m.binders = append(slices.Clone(was), binder{name, bound})
	out.L = append(out.L, m.expr(kind, depth-1))
	m.binders = was
	return out
}

// made tells a program as it is checked, with places.
func made(t *testing.T, seed int64) []api.Decl {
	m := &maker{Rand: rand.New(rand.NewSource(seed))}
	return checked(t, show.Program(m.program()))
}

// question: an expression, and the kinds of its binders.
type question struct {
	e     api.Expr
	kinds []int
}

// questions tells a definition's body and formulas, and calls of it.
func questions(m *maker, number int, d api.Decl) []question {
	var kinds []int
	for _, p := range d.Params {
		kinds = append(kinds, p.T.Kind)
	}
	out := []question{{d.Body, kinds}}
	for _, e := range d.Ensures {
		out = append(out, question{e, append(slices.Clone(kinds), d.T.Kind)})
	}
	for _, e := range d.Measure {
		out = append(out, question{e, kinds})
	}
	for n := range 3 {
		call := api.Expr{Op: api.ECall, Name: d.Name, I: number, At: -2}
		for _, k := range kinds {
			arg := m.literal(k)
			if k == api.TyInt {
				arg = num(strconv.Itoa(2*n + m.Intn(4) - 1))
			}
			call.L = append(call.L, arg)
		}
		out = append(out, question{call, nil})
	}
	return out
}

// TestRandomExpressions holds what is told against the chapter's words, with each fuel that is enough, and with less.
func TestRandomExpressions(t *testing.T) {
	t.Parallel()
	new, calls, spent := 0, 0, 0
	for seed := range int64(8000) {
		l := made(t, seed)
		defs := definitions(l)
		m := &maker{Rand: rand.New(rand.NewSource(seed))}
		for i, d := range defs {
			for _, q := range questions(m, i, d) {
				much := []int{2000, 2000, 1}[seed%3]
				p := &plain{defs: defs, fuel: much}
				want, ok := p.tell(q.e)
				if !ok {
					spent++
				}
				fuel := much - p.fuel
				if ok && size(want) > api.MaxNodes {
					continue
				}
				got, err := reduced(t, l, q.e, fuel)
				if (err == api.OK) != ok || ok && !equal(got, want) {
					t.Fatalf("P19.1: %s: %s: %s, %v, wanted %s", show.Program(l), show.Expr(q.e), show.Expr(got), err, show.Expr(want))
				}
				if !ok {
					continue
				}
				if fuel > 0 {
					calls++
					if _, err := reduced(t, l, q.e, fuel-1); err != api.ErrFuel {
						t.Fatalf("P19.1: %s: %s: %v with fuel %d, and it takes %d", show.Program(l), show.Expr(q.e), err, fuel-1, fuel)
					}
				}
				if norm.Same(got, q.e) != equal(placeless(got), placeless(q.e)) {
					t.Fatalf("P19.2: %s and %s", show.Expr(got), show.Expr(q.e))
				}
				new += number(!norm.Same(got, q.e))
				if again, err := reduced(t, l, got, fuel); err != api.OK || !equal(again, got) {
					t.Fatalf("P19.3: %s: %s again: %s, %v", show.Program(l), show.Expr(got), show.Expr(again), err)
				}
			}
		}
	}
	if new < 30000 || calls < 20000 || spent < 1000 {
		t.Errorf("only %d are new, %d have calls, %d take too much", new, calls, spent)
	}
}

// placeless tells a tree without places and without names of binders.
func placeless(e api.Expr) api.Expr {
	e.At = 0
	if e.Op == api.ELet || e.Op == api.ETry || e.Op == api.EVar {
		e.Name = ""
	}
	var l []api.Expr
	for _, o := range e.L {
		l = append(l, placeless(o))
	}
	e.L = l
	return e
}
