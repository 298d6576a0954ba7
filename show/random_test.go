package show_test

import (
	"fmt"
	"math/rand"
	"reflect"
	"slices"
	"strings"
	"testing"

	"avow/api"
	"avow/parse"
	"avow/show"
)

// maker makes trees as chapter 15 has them, without places.
type maker struct{ *rand.Rand }

func (m maker) name() string { return []string{"x", "y", "_", "é", "f1", "Pured"}[m.Intn(6)] }

func (m maker) exprs(n, depth int) []api.Expr {
	var out []api.Expr
	for range n {
		out = append(out, m.expr(depth))
	}
	return out
}

func (m maker) expr(depth int) api.Expr {
	op := 1 + m.Intn(api.EAssert)
	if depth <= 0 {
		op = api.ENum + m.Intn(api.EOld-api.ENum+1)
	}
	out := api.Expr{Op: op}
	switch op {
	case api.ENum:
		out.N = []string{"0", "7", "1234567890123456789012345"}[m.Intn(3)]
	case api.EBool:
		out.B = m.Intn(2) == 0
	case api.EVar, api.ERead, api.EOld, api.ECall, api.ELet, api.EWrite, api.ETry:
		out.Name = m.name()
	}
	out.L = m.exprs(m.operands(op), depth-1)
	return out
}

// operands tells how many an operator has.
func (m maker) operands(op int) int {
	switch op {
	case api.ENum, api.EBool, api.EUnit, api.EVar, api.ERead, api.EOld:
		return 0
	case api.ENeg, api.ENot, api.EWrite, api.ERaise, api.EAssert:
		return 1
	case api.EIf:
		return 3
	case api.ECall:
		return m.Intn(api.MaxArgs + 1)
	}
	return 2
}

func (m maker) typeOf() api.Type {
	if m.Intn(3) > 0 {
		return api.Type{Kind: 1 + m.Intn(3)}
	}
	return api.Type{Kind: api.TyInt, Name: m.name(), R: m.exprs(1, 2)}
}

func (m maker) decl() api.Decl {
	if m.Intn(4) == 0 {
		return api.Decl{Cell: true, Name: m.name(), N: []string{"0", "5", "-5", "-10"}[m.Intn(4)]}
	}
	out := api.Decl{Name: m.name(), Rec: m.Intn(2) == 0, Effect: 1 + m.Intn(5), T: m.typeOf(), Body: m.expr(4)}
	for range m.Intn(4) {
		out.Params = append(out.Params, api.Param{Name: m.name(), T: m.typeOf()})
	}
	if m.Intn(2) == 0 {
		out.Requires = m.exprs(1, 3)
	}
	if m.Intn(2) == 0 {
		out.Result, out.Ensures = m.name(), m.exprs(1, 3)
	}
	if m.Intn(2) == 0 {
		out.Measure = m.exprs(1+m.Intn(3), 2)
	}
	return out
}

// plain tells what Expr must tell, by a form of each operator: 0 to 2 stand for operands, N for its number, B for its truth, X for its name, and L for all operands.
func plain(e api.Expr) string {
	form := map[int]string{
		api.ENum: "N", api.EBool: "B", api.EUnit: "()", api.EVar: "X", api.ERead: "!X", api.EOld: "old X", api.ECall: "X(L)", api.ENeg: "(- 0)", api.ENot: "(not 0)",
		api.EMul: "(0 * 1)", api.EAdd: "(0 + 1)", api.ESub: "(0 - 1)", api.EEq: "(0 = 1)", api.ENe: "(0 <> 1)", api.ELt: "(0 < 1)", api.ELe: "(0 <= 1)", api.EGt: "(0 > 1)", api.EGe: "(0 >= 1)", api.EAnd: "(0 && 1)", api.EOr: "(0 || 1)", api.EImp: "(0 ==> 1)",
		api.EIf: "(if 0 then 1 else 2)", api.ELet: "(let X = 0 in 1)", api.ESeq: "(0; 1)", api.EWrite: "(X := 0)", api.ERaise: "(raise 0)", api.ETry: "(try 0 with X -> 1)", api.EAssert: "(assert 0)",
	}[e.Op]
	var all, pairs []string
	for i, x := range e.L {
		all = append(all, plain(x))
		pairs = append(pairs, fmt.Sprint(i), all[i])
	}
	pairs = append(pairs, "N", e.N, "B", fmt.Sprint(e.B), "X", e.Name, "L", strings.Join(all, ", "))
	return strings.NewReplacer(pairs...).Replace(form)
}

// same tells whether two are the same, a nil list being an empty one.
func same(a, b []api.Decl) bool { return reflect.DeepEqual(bareDecls(a), bareDecls(b)) }

// bareDecls tells declarations with all places 0, and empty lists nil, in new memory.
func bareDecls(l []api.Decl) []api.Decl {
	out := slices.Clone(l)
	for i := range out {
		d := &out[i]
		params := d.Params
		d.At, d.Params, d.T = 0, nil, bareType(d.T)
		for _, p := range params {
			d.Params = append(d.Params, api.Param{Name: p.Name, T: bareType(p.T)})
		}
		d.Requires, d.Ensures, d.Measure = bareExprs(d.Requires), bareExprs(d.Ensures), bareExprs(d.Measure)
		d.Body = bareExprs([]api.Expr{d.Body})[0]
	}
	return out
}

func bareType(t api.Type) api.Type {
	t.At, t.R = 0, bareExprs(t.R)
	return t
}

func bareExprs(l []api.Expr) []api.Expr {
	var out []api.Expr
	for _, e := range l {
		e.At, e.L = 0, bareExprs(e.L)
		out = append(out, e)
	}
	return out
}

// holdReadAgain holds that a program is read as itself when it is shown, and shown the same again.
func holdReadAgain(t *testing.T, l []api.Decl) {
	t.Helper()
	text := show.Program(l)
	again, err := parse.Program(text)
	if err != nil || !same(l, again) && len(l)+len(again) > 0 || show.Program(again) != text {
		t.Errorf("P16.3: %q: %v", text, err)
	}
}

func TestRandomExprs(t *testing.T) {
	m := maker{rand.New(rand.NewSource(16))}
	for range 20000 {
		e := m.expr(m.Intn(5))
		if got, wanted := show.Expr(e), plain(e); got != wanted {
			t.Fatalf("P16.1: %q, wanted %q", got, wanted)
		}
	}
}

func TestRandomPrograms(t *testing.T) {
	m := maker{rand.New(rand.NewSource(163))}
	for range 3000 {
		var l []api.Decl
		for range m.Intn(4) {
			l = append(l, m.decl())
		}
		if len(show.Program(l)) > api.MaxText {
			continue
		}
		holdReadAgain(t, l)
	}
}
