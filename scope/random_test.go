package scope_test

import (
	"math/rand"
	"reflect"
	"slices"
	"strconv"
	"testing"

	"avow/api"
	"avow/show"
)

// maker makes programs of few names, most of which are there where they are used.
type maker struct {
	*rand.Rand
	wild                 int      // one name in so many is any, if it isn't 0
	cells, defs, binders []string // what is there
	ensures              bool
}

func (m *maker) name() string { return []string{"a", "b", "c", "f", "x", "é"}[m.Intn(6)] }

func (m *maker) isWild() bool { return m.wild > 0 && m.Intn(m.wild) == 0 }

// oneOf tells one of names, or, where it is wild, any; and whether there is one.
func (m *maker) oneOf(names []string) (string, bool) {
	if m.isWild() {
		return m.name(), true
	}
	if len(names) == 0 {
		return "", false
	}
	return names[m.Intn(len(names))], true
}

// fresh tells a name that isn't one of names, or, where it is wild, any.
func (m *maker) fresh(names ...string) string {
	out := m.name()
	for !m.isWild() && slices.Contains(names, out) {
		out += strconv.Itoa(m.Intn(10))
	}
	return out
}

func (m *maker) program() []api.Decl {
	var out []api.Decl
	for range m.Intn(6) {
		name := m.fresh(slices.Concat(m.cells, m.defs)...)
		if m.Intn(3) == 0 {
			out = append(out, api.Decl{Cell: true, Name: name, N: "1"})
			m.cells = append(m.cells, name)
		} else {
			out = append(out, m.definition(name))
		}
	}
	return out
}

func (m *maker) definition(name string) api.Decl {
	out := api.Decl{Name: name, Effect: api.EfAll, Rec: m.Intn(2) == 0, Result: m.name()}
	if out.Rec {
		m.defs = append(m.defs, name)
	}
	m.binders = nil
	for range m.Intn(4) {
		p := api.Param{Name: m.fresh(m.binders...), T: m.typeOf()}
		out.Params = append(out.Params, p)
		m.binders = append(m.binders, p.Name)
	}
	if m.Intn(2) == 0 {
		out.Requires = m.under("", 3, 1)
	}
	out.T = m.typeOf()
	if m.Intn(2) == 0 {
		m.ensures = true
		out.Ensures = m.under(out.Result, 3, 1)
		m.ensures = false
	}
	if m.Intn(2) == 0 {
		out.Measure = m.under("", 2, 1+m.Intn(3))
	}
	out.Body = m.expr(4)
	if !out.Rec {
		m.defs = append(m.defs, name)
	}
	return out
}

func (m *maker) typeOf() api.Type {
	if m.Intn(2) == 0 {
		return api.Type{Kind: api.TyInt}
	}
	name := m.name()
	return api.Type{Kind: api.TyInt, Name: name, R: m.under(name, 2, 1)}
}

// under makes so many expressions, within a binder, if it has a name.
func (m *maker) under(name string, depth, many int) []api.Expr {
	was := m.binders
	if name != "" {
		m.binders = append(slices.Clone(was), name)
	}
	var out []api.Expr
	for range many {
		out = append(out, m.expr(depth))
	}
	m.binders = was
	return out
}

func (m *maker) expr(depth int) api.Expr {
	op := 1 + m.Intn(api.EAssert)
	if depth <= 0 || m.Intn(4) == 0 {
		op = []int{api.EVar, api.EVar, api.ERead, api.EOld}[m.Intn(4)]
	}
	out := api.Expr{Op: op}
	there := true
	switch op {
	case api.EVar:
		out.Name, there = m.oneOf(m.binders)
	case api.ERead, api.EWrite:
		out.Name, there = m.oneOf(m.cells)
	case api.EOld:
		out.Name, there = m.oneOf(m.cells)
		there = there && (m.ensures || m.isWild())
	case api.ECall:
		out.Name, there = m.oneOf(m.defs)
	case api.ENum:
		out.N = "7"
	case api.ELet, api.ETry:
		name := m.name()
		return api.Expr{Op: op, Name: name, L: append(m.under("", depth-1, 1), m.under(name, depth-1, 1)...)}
	}
	if !there {
		return api.Expr{Op: api.EUnit}
	}
	out.L = m.under("", depth-1, m.operands(op))
	return out
}

// operands tells how many an operator has.
func (m *maker) operands(op int) int {
	switch op {
	case api.ENum, api.EBool, api.EUnit, api.EVar, api.ERead, api.EOld:
		return 0
	case api.ENeg, api.ENot, api.EWrite, api.ERaise, api.EAssert:
		return 1
	case api.EIf:
		return 3
	case api.ECall:
		return m.Intn(4)
	}
	return 2
}

// made tells a program as it is read, with places.
func made(t *testing.T, seed int64, wild int) []api.Decl {
	m := &maker{Rand: rand.New(rand.NewSource(seed)), wild: wild}
	return read(t, show.Program(m.program()))
}

// TestRandomPrograms holds what is told against the chapter's words.
func TestRandomPrograms(t *testing.T) {
	outcomes := map[api.Errno]int{}
	for seed := range int64(20000) {
		l := made(t, seed, []int{0, 5, 25, 100}[seed%4])
		wanted, wantedWrong := plainly(l)
		got, wrong := ask(t, l)
		if !reflect.DeepEqual(wrong, wantedWrong) || !same(got, wanted) {
			t.Fatalf("P17.1, P17.2: %s: %v, %+v, wanted %v, %+v", show.Program(l), wrong, got, wantedWrong, wanted)
		}
		if wrong == nil {
			outcomes[api.OK]++
		} else {
			outcomes[wrong.Err]++
		}
	}
	for _, err := range []api.Errno{api.OK, api.ErrName, api.ErrTwice, api.ErrOld} {
		if outcomes[err] < 200 {
			t.Errorf("only %d of the programs are %v", outcomes[err], err)
		}
	}
}

// TestRenamed holds that numbers stay where binders get other names: such as none other has, and those of cells and definitions.
func TestRenamed(t *testing.T) {
	for seed := range int64(5000) {
		l, wrong := ask(t, made(t, seed, 0))
		if wrong != nil {
			t.Fatalf("P17.2: %v", wrong)
		}
		var known []string
		for _, d := range l {
			known = append(known, d.Name)
		}
		for _, all := range [][]string{nil, known} {
			n := namer{all: all}
			n.program(l)
			wanted := cloned(n.out)
			for _, e := range named(n.out) {
				e.I = 0
			}
			if got, wrong := ask(t, n.out); wrong != nil || !same(got, wanted) {
				t.Fatalf("P17.4: %s: %v, %+v, wanted %+v", show.Program(n.out), wrong, got, wanted)
			}
		}
	}
}

// namer gives binders names by how many stand around them, and variables those of their binders, as their numbers tell them.
type namer struct {
	all     []string // what is taken first
	binders []string
	out     []api.Decl
}

func (n *namer) bind() string {
	name := "n" + strconv.Itoa(len(n.binders))
	if len(n.binders) < len(n.all) {
		name = n.all[len(n.binders)]
	}
	n.binders = append(n.binders, name)
	return name
}

func (n *namer) unbind() { n.binders = n.binders[:len(n.binders)-1] }

func (n *namer) program(l []api.Decl) {
	n.out = cloned(l)
	for i := range n.out {
		d := &n.out[i]
		n.binders = nil
		for j := range d.Params {
			p := &d.Params[j]
			p.T.Name = n.under(p.T.R)
			p.Name = n.bind()
		}
		n.exprs(d.Requires)
		d.T.Name = n.under(d.T.R)
		d.Result = n.under(d.Ensures)
		n.exprs(d.Measure)
		n.exprs(alone(&d.Body))
	}
}

// under names what stands under one binder more, and tells its name.
func (n *namer) under(l []api.Expr) string {
	name := n.bind()
	n.exprs(l)
	n.unbind()
	return name
}

func (n *namer) exprs(l []api.Expr) {
	for i := range l {
		e := &l[i]
		switch e.Op {
		case api.EVar:
			e.Name = n.binders[len(n.binders)-1-e.I]
		case api.ELet, api.ETry:
			n.exprs(e.L[:1])
			e.Name = n.under(e.L[1:])
			continue
		}
		n.exprs(e.L)
	}
}
