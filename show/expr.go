package show

import (
	"strconv"

	"avow/api"
)

// unknown: of what is none: operators, kinds, effects.
const unknown = "?"

func (w *writer) expr(e *api.Expr) {
	if w.done() {
		return
	}
	w.left--
	switch e.Op {
	case api.ENum:
		w.put(e.N)
	case api.EBool:
		w.put(strconv.FormatBool(e.B))
	case api.EUnit:
		w.put("()")
	case api.EVar:
		w.put(e.Name)
	case api.ERead:
		w.put("!", e.Name)
	case api.EOld:
		w.put("old ", e.Name)
	case api.ECall:
		w.call(e)
	case api.EIf, api.ELet, api.ESeq, api.EWrite, api.ERaise, api.ETry, api.EAssert:
		w.statement(e)
	case api.ENeg:
		w.weave(e.L, "(- ", ")")
	case api.ENot:
		w.weave(e.L, "(not ", ")")
	default:
		w.weave(e.L, "(", " "+signOf(e.Op)+" ", ")")
	}
}

func (w *writer) call(e *api.Expr) {
	w.put(e.Name, "(")
	for i := range e.L {
		if w.done() {
			break
		}
		if i > 0 {
			w.put(", ")
		}
		w.expr(&e.L[i])
	}
	w.put(")")
}

// statement writes what is told by words, or by signs that aren't a binary operator's.
func (w *writer) statement(e *api.Expr) {
	switch e.Op {
	case api.EIf:
		w.weave(e.L, "(if ", " then ", " else ", ")")
	case api.ELet:
		w.weave(e.L, "(let "+e.Name+" = ", " in ", ")")
	case api.ESeq:
		w.weave(e.L, "(", "; ", ")")
	case api.EWrite:
		w.weave(e.L, "("+e.Name+" := ", ")")
	case api.ERaise:
		w.weave(e.L, "(raise ", ")")
	case api.ETry:
		w.weave(e.L, "(try ", " with "+e.Name+" -> ", ")")
	case api.EAssert:
		w.weave(e.L, "(assert ", ")")
	}
}

// signs: by binary operators.
var signs = [...]string{
	api.EMul: "*", api.EAdd: "+", api.ESub: "-",
	api.EEq: "=", api.ENe: "<>", api.ELt: "<", api.ELe: "<=", api.EGt: ">", api.EGe: ">=",
	api.EAnd: "&&", api.EOr: "||", api.EImp: "==>",
}

func signOf(op int) string {
	if op < api.EMul || op > api.EImp {
		return unknown
	}
	return signs[op]
}
