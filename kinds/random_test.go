package kinds_test

import (
	"math/rand"
	"reflect"
	"slices"
	"strconv"
	"testing"

	"avow/api"
	"avow/show"
)

// maker makes programs that are checked, if they aren't wild.
type maker struct {
	*rand.Rand
	wild       int        // one choice in so many is any, if it isn't 0
	cells      []string   // what is there
	defs       []api.Decl // what can be called
	binders    []binder
	may        effect // what is allowed
	formula    bool
	refinement bool
	ensures    bool
}

type binder struct {
	name string
	kind int
}

// mayDo: what is allowed by effects.
var mayDo = map[int]effect{api.EfPure: {}, api.EfState: {cells: true}, api.EfExn: {raises: true}, api.EfAll: {cells: true, raises: true}, api.EfDiv: {true, true, true}}

func (m *maker) isWild() bool { return m.wild > 0 && m.Intn(m.wild) == 0 }

// strays tells whether what is rare of itself goes wrong.
func (m *maker) strays() bool { return m.wild > 0 && m.Intn(8) == 0 }

func (m *maker) kind() int { return 1 + m.Intn(3) }

func (m *maker) program() []api.Decl {
	var out []api.Decl
	for i := range 1 + m.Intn(6) {
		name := "g" + strconv.Itoa(i)
		if m.Intn(4) == 0 {
			out = append(out, api.Decl{Cell: true, Name: name, N: "3"})
			m.cells = append(m.cells, name)
		} else {
			out = append(out, m.definition(name))
		}
	}
	return out
}

func (m *maker) definition(name string) api.Decl {
	out := api.Decl{Name: name, Effect: api.EfPure + m.Intn(5), Rec: m.Intn(2) == 0, Result: "r"}
	if m.Intn(2) == 0 {
		out.Effect = api.EfPure
	}
	// What calls itself needs all of its signature ahead of its formulas.
	var kinds []int
	for range m.Intn(4) {
		kinds = append(kinds, m.kind())
		out.Params = append(out.Params, api.Param{T: api.Type{Kind: kinds[len(kinds)-1]}})
	}
	out.T.Kind = m.kind()
	if out.Rec {
		m.defs = append(m.defs, api.Decl{Name: name, Effect: out.Effect, Params: slices.Clone(out.Params), T: out.T})
	}
	m.contract(&out)
	m.may = mayDo[out.Effect]
	if m.strays() {
		m.may = mayDo[api.EfPure+m.Intn(5)]
	}
	out.Body = m.expr(m.wildly(out.T.Kind), 4)
	m.defs = append(m.defs[:len(m.defs)-number(out.Rec)], out)
	return out
}

func number(b bool) int {
	if b {
		return 1
	}
	return 0
}

// wildly tells that kind, or, where it is wild, any.
func (m *maker) wildly(kind int) int {
	if m.isWild() {
		return m.kind()
	}
	return kind
}

// contract makes formulas, and names of parameters, which it leaves as binders.
func (m *maker) contract(d *api.Decl) {
	m.binders = nil
	m.formula = true
	m.may = effect{cells: mayDo[d.Effect].cells}
	if d.Rec { // formulas of a definition don't call it
		own := m.defs[len(m.defs)-1]
		m.defs = m.defs[:len(m.defs)-1]
		defer func() { m.defs = append(m.defs, own) }()
	}
	for i := range d.Params {
		p := &d.Params[i]
		p.Name = "p" + strconv.Itoa(i)
		p.T = m.typeOf(p.T.Kind)
		m.binders = append(m.binders, binder{p.Name, p.T.Kind})
	}
	d.T = m.typeOf(d.T.Kind)
	if m.Intn(3) == 0 {
		d.Requires = m.under(nil, api.TyBool)
	}
	if m.Intn(3) == 0 {
		m.ensures = true
		d.Ensures = m.under([]binder{{"r", d.T.Kind}}, api.TyBool)
		m.ensures = false
	}
	if d.Rec != (d.Effect == api.EfDiv && d.Rec) != m.isWild() {
		for range 1 + m.Intn(4) {
			d.Measure = append(d.Measure, m.under(nil, api.TyInt)...)
		}
	}
	m.formula = false
}

// typeOf tells a type of that kind, an int's with a refinement or not.
func (m *maker) typeOf(kind int) api.Type {
	out := api.Type{Kind: kind}
	if kind == api.TyInt && m.Intn(3) == 0 {
		m.refinement = true
		out.Name, out.R = "v", m.under([]binder{{"v", api.TyInt}}, api.TyBool)
		m.refinement = false
	}
	return out
}

// under makes one formula with binders more.
func (m *maker) under(l []binder, kind int) []api.Expr {
	was := m.binders
	m.binders = append(slices.Clone(was), l...)
	out := m.expr(m.wildly(kind), 2)
	m.binders = was
	return []api.Expr{out}
}

// operators tells the operators that can make a kind.
func operators(kind int) []int {
	out := []int{api.EVar, api.EVar, api.ECall, api.EIf, api.ELet, api.ESeq, api.ETry}
	switch kind {
	case api.TyInt:
		return append(out, api.ENum, api.ERead, api.EOld, api.ENeg, api.EMul, api.EAdd, api.ESub, api.ERaise)
	case api.TyBool:
		return append(out, api.EBool, api.ENot, api.EEq, api.ENe, api.ELt, api.ELe, api.EGt, api.EGe, api.EAnd, api.EOr, api.EImp)
	}
	return append(out, api.EUnit, api.EWrite, api.EAssert)
}

// literal tells a value of that kind.
func (m *maker) literal(kind int) api.Expr {
	switch kind {
	case api.TyInt:
		return api.Expr{Op: api.ENum, N: strconv.Itoa(m.Intn(4))}
	case api.TyBool:
		return api.Expr{Op: api.EBool, B: m.Intn(2) == 0}
	}
	return api.Expr{Op: api.EUnit}
}

func (m *maker) expr(kind, depth int) api.Expr {
	ops := operators(kind)
	op := ops[m.Intn(len(ops))]
	if depth <= 0 && op > api.EOld || !m.allowed(op) && !m.isWild() {
		return m.literal(kind)
	}
	switch op {
	case api.EVar:
		return m.variable(kind)
	case api.ERead, api.EOld, api.EWrite:
		return m.cell(op, depth)
	case api.ECall:
		return m.call(kind, depth)
	case api.ELet, api.ETry:
		return m.binding(op, kind, depth)
	case api.ENum, api.EBool, api.EUnit:
		return m.literal(kind)
	}
	out := api.Expr{Op: op}
	for _, k := range m.operands(op, kind) {
		out.L = append(out.L, m.expr(m.wildly(k), depth-1))
	}
	if op == api.EMul && !m.strays() {
		out.L[m.Intn(2)] = []api.Expr{{Op: api.ENum, N: "2"}, {Op: api.ENeg, L: []api.Expr{{Op: api.ENum, N: "3"}}}}[m.Intn(2)]
	}
	return out
}

// allowed tells whether an operator may stand where expressions are being made.
func (m *maker) allowed(op int) bool {
	switch op {
	case api.ERead:
		return m.may.cells && !m.refinement
	case api.EOld:
		return m.may.cells && m.ensures
	case api.EWrite:
		return m.may.cells && !m.formula
	case api.ERaise:
		return m.may.raises && !m.formula
	case api.EAssert, api.ESeq, api.ETry:
		return !m.formula
	}
	return true
}

func (m *maker) operands(op, kind int) []int {
	switch op {
	case api.ENeg, api.ERaise:
		return []int{api.TyInt}
	case api.ENot, api.EAssert:
		return []int{api.TyBool}
	case api.EMul, api.EAdd, api.ESub, api.ELt, api.ELe, api.EGt, api.EGe:
		return []int{api.TyInt, api.TyInt}
	case api.EEq, api.ENe:
		k := 1 + m.Intn(2)
		return []int{k, k}
	case api.EIf:
		return []int{api.TyBool, kind, kind}
	case api.ESeq:
		return []int{m.kind(), kind}
	}
	return []int{api.TyBool, api.TyBool}
}

func (m *maker) variable(kind int) api.Expr {
	var names, hidden []string
	for _, b := range slices.Backward(m.binders) {
		if !slices.Contains(hidden, b.name) && (b.kind == kind || m.isWild()) {
			names = append(names, b.name)
		}
		hidden = append(hidden, b.name)
	}
	if len(names) == 0 {
		return m.literal(kind)
	}
	return api.Expr{Op: api.EVar, Name: names[m.Intn(len(names))]}
}

func (m *maker) cell(op, depth int) api.Expr {
	if len(m.cells) == 0 || op == api.EOld && !m.ensures {
		return m.literal(map[int]int{api.ERead: api.TyInt, api.EOld: api.TyInt, api.EWrite: api.TyUnit}[op])
	}
	out := api.Expr{Op: op, Name: m.cells[m.Intn(len(m.cells))]}
	if op == api.EWrite {
		out.L = []api.Expr{m.expr(m.wildly(api.TyInt), depth-1)}
	}
	return out
}

func (m *maker) call(kind, depth int) api.Expr {
	var callable []api.Decl
	for _, d := range m.defs {
		does := mayDo[d.Effect]
		fits := d.T.Kind == kind && (d.Effect == api.EfPure || !m.formula && (m.may.cells || !does.cells) && (m.may.raises || !does.raises) && (m.may.endless || !does.endless))
		if fits || m.isWild() {
			callable = append(callable, d)
		}
	}
	if len(callable) == 0 {
		return m.literal(kind)
	}
	d := callable[m.Intn(len(callable))]
	out := api.Expr{Op: api.ECall, Name: d.Name}
	for _, k := range paramKinds(d) {
		out.L = append(out.L, m.expr(m.wildly(k), depth-1))
	}
	if m.strays() && len(out.L) > 0 {
		out.L = out.L[1:]
	}
	return out
}

func (m *maker) binding(op, kind, depth int) api.Expr {
	was := m.binders
	name := "x" + strconv.Itoa(m.Intn(3))
	bound, first := api.TyInt, kind
	if op == api.ELet {
		bound = m.kind()
		first = bound
	}
	may := m.may
	m.may.raises = m.may.raises || op == api.ETry
	out := api.Expr{Op: op, Name: name, L: []api.Expr{m.expr(m.wildly(first), depth-1)}}
	m.may = may
	m.binders = append(slices.Clone(was), binder{name, bound})
	out.L = append(out.L, m.expr(m.wildly(kind), depth-1))
	m.binders = was
	return out
}

// made tells a program as it is resolved, with places.
func made(t *testing.T, seed int64, wild int) []api.Decl {
	m := &maker{Rand: rand.New(rand.NewSource(seed)), wild: wild}
	return resolved(t, show.Program(m.program()))
}

// TestRandomPrograms holds what is told against the chapter's words.
func TestRandomPrograms(t *testing.T) {
	outcomes := map[api.Errno]int{}
	for seed := range int64(30000) {
		wild := []int{0, 10, 50, 200}[seed%4]
		l := made(t, seed, wild)
		p := plain{definitions(l)}
		wanted := p.check()
		got := check(t, l)
		if !reflect.DeepEqual(got, wanted) {
			t.Fatalf("P18.3: %s: %v, wanted %v", show.Program(l), got, wanted)
		}
		if got == nil {
			outcomes[api.OK]++
		} else {
			outcomes[got.Err]++
		}
		if wild == 0 && got != nil {
			t.Errorf("P18.3: %s: %v", show.Program(l), got)
		}
		for i, d := range p.defs {
			kind, wrong := kindOf(t, l, i, d.Body, paramKinds(d))
			if wantedKind, wantedWrong := p.kind(d.Body, paramKinds(d)); kind != wantedKind || !reflect.DeepEqual(wrong, wantedWrong) {
				t.Fatalf("P18.1: %s: %d, %v, wanted %d, %v", show.Expr(d.Body), kind, wrong, wantedKind, wantedWrong)
			}
			if got, wanted := effectOf(l, d.Body), p.effect(d.Body); got != wanted {
				t.Fatalf("P18.2: %s: %+v, wanted %+v", show.Expr(d.Body), got, wanted)
			}
		}
	}
	for _, err := range []api.Errno{api.OK, api.ErrKind, api.ErrEffect, api.ErrArgs, api.ErrPure, api.ErrMeasure, api.ErrLinear} {
		if outcomes[err] < 200 {
			t.Errorf("only %d of the programs are %v", outcomes[err], err)
		}
	}
}
