package eval_test

import (
	"math/rand"
	"slices"
	"strconv"
	"testing"

	"avow/api"
	"avow/eval"
	"avow/kinds"
	"avow/show"
)

// maker makes programs that are checked.
type maker struct {
	*rand.Rand
	cells   []string
	defs    []api.Decl // what can be called
	binders []binder
	may     effect
	own     string // the definition that calls itself, with less in its first argument
	ensures bool
	formula bool
}

type binder struct {
	name string
	kind int
}

// effect: what is allowed where expressions are made.
type effect struct{ cells, raises, endless bool }

var mayDo = map[int]effect{api.EfPure: {}, api.EfState: {cells: true}, api.EfExn: {raises: true}, api.EfAll: {cells: true, raises: true}, api.EfDiv: {true, true, true}}

func (m *maker) kind() int { return 1 + m.Intn(3) }

func (m *maker) program() []api.Decl {
	var out []api.Decl
	for i := range 2 + m.Intn(5) {
		name := "g" + strconv.Itoa(i)
		if m.Intn(5) == 0 {
			out = append(out, api.Decl{Cell: true, Name: name, N: "3"})
			m.cells = append(m.cells, name)
		} else {
			out = append(out, m.definition(name))
		}
	}
	return out
}

// definition makes one; what calls itself ends, as its first parameter gets less.
func (m *maker) definition(name string) api.Decl {
	out := api.Decl{Name: name, Effect: api.EfPure, Rec: m.Intn(2) == 0, T: api.Type{Kind: m.kind()}, Result: "r"}
	if m.Intn(4) > 0 {
		out.Effect = api.EfPure + m.Intn(5)
	}
	m.binders = nil
	for i := range m.Intn(4) + one(out.Rec) {
		kind := m.kind()
		if out.Rec && i == 0 {
			kind = api.TyInt
		}
		p := api.Param{Name: "p" + strconv.Itoa(i), T: m.refined(kind)}
		out.Params = append(out.Params, p)
		m.binders = append(m.binders, binder{p.Name, kind})
	}
	m.contract(&out)
	m.may = mayDo[out.Effect]
	if out.Rec {
		m.defs, m.own = append(m.defs, out), name
	}
	out.Body = m.expr(out.T.Kind, 4)
	if out.Rec {
		end := api.Expr{Op: api.ELe, L: []api.Expr{{Op: api.EVar, Name: "p0"}, num("0")}}
		out.Body = of(api.EIf, end, m.literal(out.T.Kind), out.Body)
		m.defs, m.own = m.defs[:len(m.defs)-1], ""
	}
	m.defs = append(m.defs, out)
	return out
}

func one(b bool) int {
	if b {
		return 1
	}
	return 0
}

// refined tells a type of a kind, with a refinement under the binders, if it may have one.
func (m *maker) refined(kind int) api.Type {
	out := api.Type{Kind: kind}
	if kind == api.TyInt && m.Intn(3) > 0 {
		out.Name = "v"
		out.R = []api.Expr{m.under(binder{"v", kind}, effect{})}
	}
	return out
}

// under makes a formula under the binders and one more.
func (m *maker) under(b binder, may effect) api.Expr {
	was := m.binders
	m.binders = append(slices.Clone(was), b)
	out := m.formulaOf(api.TyBool, may)
	m.binders = was
	return out
}

func (m *maker) formulaOf(kind int, may effect) api.Expr {
	m.formula, m.may = true, may
	out := m.expr(kind, 3)
	m.formula = false
	return out
}

// contract makes what a definition requires and ensures, and a measure.
func (m *maker) contract(d *api.Decl) {
	may := effect{cells: mayDo[d.Effect].cells}
	d.T = m.refined(d.T.Kind)
	if m.Intn(2) == 0 {
		d.Requires = []api.Expr{m.formulaOf(api.TyBool, may)}
	}
	if m.Intn(2) == 0 {
		m.ensures = true
		d.Ensures = []api.Expr{m.under(binder{"r", d.T.Kind}, may)}
		m.ensures = false
	}
	if d.Rec && d.Effect != api.EfDiv {
		d.Measure = []api.Expr{num("1")}
	}
}

// operators tells the operators that can make a kind.
func operators(kind int) []int {
	out := []int{api.EVar, api.EVar, api.ECall, api.ECall, api.EIf, api.ELet, api.ESeq, api.ETry}
	switch kind {
	case api.TyInt:
		return append(out, api.ENum, api.ERead, api.EOld, api.ENeg, api.EMul, api.EAdd, api.ESub, api.ERaise, api.ERaise)
	case api.TyBool:
		return append(out, api.EBool, api.ENot, api.EEq, api.ENe, api.ELt, api.ELe, api.EGt, api.EGe, api.EAnd, api.EOr, api.EImp)
	}
	return append(out, api.EUnit, api.EWrite, api.EWrite, api.EAssert, api.EAssert)
}

// literal tells a value of that kind.
func (m *maker) literal(kind int) api.Expr {
	switch kind {
	case api.TyInt:
		return api.Expr{Op: api.ENum, N: strconv.Itoa(m.Intn(4))}
	case api.TyBool:
		return api.Expr{Op: api.EBool, B: m.Intn(2) == 0}
	}
	return api.Expr{Op: api.EUnit}
}

func (m *maker) expr(kind, depth int) api.Expr {
	ops := operators(kind)
	op := ops[m.Intn(len(ops))]
	if depth <= 0 && op > api.EOld || !m.allowed(op) {
		return m.literal(kind)
	}
	switch op {
	case api.EVar:
		return m.variable(kind)
	case api.ERead, api.EOld, api.EWrite:
		return m.cell(op, depth)
	case api.ECall:
		return m.call(kind, depth)
	case api.ELet, api.ETry:
		return m.binding(op, kind, depth)
	case api.ENum, api.EBool, api.EUnit:
		return m.literal(kind)
	}
	out := api.Expr{Op: op}
	for _, k := range m.operands(op, kind) {
		out.L = append(out.L, m.expr(k, depth-1))
	}
	if op == api.EMul {
		out.L[m.Intn(2)] = []api.Expr{num("2"), num("-3"), num("0"), num("-0")}[m.Intn(4)]
	}
	return out
}

// allowed tells whether an operator may stand where expressions are being made.
func (m *maker) allowed(op int) bool {
	switch op {
	case api.ERead:
		return m.may.cells
	case api.EOld:
		return m.may.cells && m.ensures
	case api.EWrite:
		return m.may.cells && !m.formula
	case api.ERaise:
		return m.may.raises && !m.formula
	case api.EAssert, api.ESeq, api.ETry:
		return !m.formula
	}
	return true
}

func (m *maker) operands(op, kind int) []int {
	switch op {
	case api.ENeg, api.ERaise:
		return []int{api.TyInt}
	case api.ENot, api.EAssert:
		return []int{api.TyBool}
	case api.EMul, api.EAdd, api.ESub, api.ELt, api.ELe, api.EGt, api.EGe:
		return []int{api.TyInt, api.TyInt}
	case api.EEq, api.ENe:
		k := 1 + m.Intn(2)
		return []int{k, k}
	case api.EIf:
		return []int{api.TyBool, kind, kind}
	case api.ESeq:
		return []int{max(m.kind(), m.kind()), kind} // for the effect, mostly
	}
	return []int{api.TyBool, api.TyBool}
}

func (m *maker) variable(kind int) api.Expr {
	var names, hidden []string
	for _, b := range slices.Backward(m.binders) {
		if !slices.Contains(hidden, b.name) && b.kind == kind {
			names = append(names, b.name)
		}
		hidden = append(hidden, b.name)
	}
	if len(names) == 0 {
		return m.literal(kind)
	}
	return api.Expr{Op: api.EVar, Name: names[m.Intn(len(names))]}
}

func (m *maker) cell(op, depth int) api.Expr {
	if len(m.cells) == 0 {
		return m.literal(map[int]int{api.ERead: api.TyInt, api.EOld: api.TyInt, api.EWrite: api.TyUnit}[op])
	}
	out := api.Expr{Op: op, Name: m.cells[m.Intn(len(m.cells))]}
	if op == api.EWrite {
		out.L = []api.Expr{m.expr(api.TyInt, depth-1)}
	}
	return out
}

func (m *maker) call(kind, depth int) api.Expr {
	var callable []api.Decl
	for _, d := range m.defs {
		does := mayDo[d.Effect]
		if d.T.Kind == kind && (d.Effect == api.EfPure || !m.formula && (m.may.cells || !does.cells) && (m.may.raises || !does.raises) && (m.may.endless || !does.endless)) {
			callable = append(callable, d)
		}
	}
	if len(callable) == 0 {
		return m.literal(kind)
	}
	d := callable[m.Intn(len(callable))]
	out := api.Expr{Op: api.ECall, Name: d.Name}
	for i, p := range d.Params {
		arg := m.literal(p.T.Kind)
		if m.Intn(2) == 0 {
			arg = m.expr(p.T.Kind, depth-1)
		}
		if i == 0 && d.Name == m.own {
			arg = of(api.ESub, api.Expr{Op: api.EVar, Name: "p0"}, num(strconv.Itoa(1+m.Intn(2))))
		}
		out.L = append(out.L, arg)
	}
	return out
}

func (m *maker) binding(op, kind, depth int) api.Expr {
	was, may := m.binders, m.may
	name := "x" + strconv.Itoa(m.Intn(3))
	bound, first := api.TyInt, kind
	if op == api.ELet {
		bound = m.kind()
		first = bound
	}
	m.may.raises = m.may.raises || op == api.ETry
	out := api.Expr{Op: op, Name: name, L: []api.Expr{m.expr(first, depth-1)}}
	m.may = may
	m.binders = append(slices.Clone(was), binder{name, bound})
	out.L = append(out.L, m.expr(kind, depth-1))
	m.binders = was
	return out
}

// made tells a program as it is checked; here and there in a body stands old instead of what is read, which no text says.
func (m *maker) made(t *testing.T) []api.Decl {
	l := checked(t, show.Program(m.program()))
	for i := range l {
		m.age(&l[i].Body)
	}
	if err := kinds.Check(l); err != nil {
		t.Fatal(err)
	}
	return l
}

func (m *maker) age(e *api.Expr) {
	if e.Op == api.ERead && m.Intn(3) == 0 {
		e.Op = api.EOld
	}
	for i := range e.L {
		m.age(&e.L[i])
	}
}

// texts tells texts for values of these kinds: sometimes they aren't right, or there are too few, or too many.
func (m *maker) texts(kinds ...int) []string {
	var out []string
	for _, k := range kinds {
		if m.Intn(40) == 0 {
			return out
		}
		out = append(out, m.text(k))
	}
	if m.Intn(10) == 0 {
		out = append(out, "8")
	}
	return out
}

func (m *maker) text(kind int) string {
	some := []string{"-0", "+1", "05", "", " 1", "x", "1x", "true", "()", "TRUE", "truest"}
	switch {
	case m.Intn(10) == 0:
		return some[m.Intn(len(some))]
	case kind == api.TyInt && m.Intn(20) == 0:
		return []string{"99999999999999999999", "-99999999999999999999", "9223372036854775807", "-9223372036854775808"}[m.Intn(4)]
	case kind == api.TyInt:
		return strconv.Itoa(m.Intn(9) - 3)
	case kind == api.TyBool:
		return []string{"true", "false"}[m.Intn(2)]
	}
	return "()"
}

func (m *maker) numbers(many int) []string {
	return m.texts(slices.Repeat([]int{api.TyInt}, many)...)
}

func kindsOf(d api.Decl) []int {
	var out []int
	for _, p := range d.Params {
		out = append(out, p.T.Kind)
	}
	return out
}

// TestRandomPrograms holds what Run tells against the chapter's words, with as much fuel as is needed, and with less.
func TestRandomPrograms(t *testing.T) {
	t.Parallel()
	var outs [4]int
	for seed := range int64(6000) {
		m := &maker{Rand: rand.New(rand.NewSource(seed))}
		l := m.made(t)
		defs := definitions(l)
		for range 3 {
			for def, d := range defs {
				args, cells := m.texts(kindsOf(d)...), m.numbers(len(l)-len(defs))
				fuel := 3000
				for range 1 + m.Intn(2) {
					p := newPlain(l, cells, cells, fuel)
					want := p.run(def, args)
					got := eval.Run(l, def, args, cells, fuel)
					if !same(got, want) {
						t.Fatalf("P20.1: %s: %s, %q, %q, fuel %d: %v, wanted %v", show.Program(l), d.Name, args, cells, fuel, got, want)
					}
					outs[got.Out]++
					if want.Out != api.OutFuel {
						fuel -= p.fuel // so much was needed
					}
					fuel-- // below 0, too
				}
			}
		}
	}
	for out, many := range outs {
		if many < 2000 {
			t.Errorf("only %d runs came to outcome %d", many, out)
		}
	}
}

// TestRandomFormulas holds what Formula tells against the chapter's words.
func TestRandomFormulas(t *testing.T) {
	t.Parallel()
	var told [2]int
	untold := 0
	for seed := range int64(6000) {
		m := &maker{Rand: rand.New(rand.NewSource(seed + 20000))}
		l := m.made(t)
		defs := definitions(l)
		for range 6 {
			for def, d := range defs {
				args, result := m.texts(kindsOf(d)...), m.text(d.T.Kind)
				old, cells := m.numbers(len(l)-len(defs)), m.numbers(len(l)-len(defs))
				which, fuel := m.Intn(2), m.Intn(30)-1
				yes, ok := newPlain(l, old, cells, fuel).formula(def, which, args, result)
				gotYes, gotOK := eval.Formula(l, def, which, args, result, old, cells, fuel)
				if gotYes != yes || gotOK != ok {
					t.Fatalf("P20.2: %s: %s, %d, %q, %q, %q, %q, fuel %d: %v, %v, wanted %v, %v", show.Program(l), d.Name, which, args, result, old, cells, fuel, gotYes, gotOK, yes, ok)
				}
				if ok {
					told[one(yes)]++
				} else {
					untold++
				}
			}
		}
	}
	if told[0] < 3000 || told[1] < 3000 || untold < 500 {
		t.Errorf("only %d were false, %d true, %d couldn't be told", told[0], told[1], untold)
	}
}
