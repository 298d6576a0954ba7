package show

import (
	"avow/api"
)

func (w *writer) typeOf(t *api.Type) {
	if len(t.R) == 0 {
		w.put(kindWord(t.Kind))
		return
	}
	w.part(t.R, "{", t.Name, " : int | ")
	w.put("}")
}

func (w *writer) decl(d *api.Decl) {
	if d.Cell {
		w.put("ref ", d.Name, " := ", d.N, ";;")
		return
	}
	w.put("let ")
	if d.Rec {
		w.put("rec ")
	}
	w.put(d.Name)
	for i := range d.Params {
		w.put(" (", d.Params[i].Name, " : ")
		w.typeOf(&d.Params[i].T)
		w.put(")")
	}
	w.put(" : ", effectWord(d.Effect), " ")
	w.typeOf(&d.T)
	w.contract(d)
	w.put(" is ")
	w.whole(&d.Body)
	w.put(";;")
}

func (w *writer) contract(d *api.Decl) {
	w.part(d.Requires, " requires ")
	w.part(d.Ensures, " ensures ", d.Result, ". ")
	for i := range d.Measure {
		between := ", "
		if i == 0 {
			between = " decreases "
		}
		w.part(d.Measure[i:], between)
	}
}

func kindWord(kind int) string {
	switch kind {
	case api.TyInt:
		return "int"
	case api.TyBool:
		return "bool"
	case api.TyUnit:
		return "unit"
	}
	return unknown
}

func effectWord(effect int) string {
	switch effect {
	case api.EfPure:
		return "Pure"
	case api.EfState:
		return "State"
	case api.EfExn:
		return "Exn"
	case api.EfAll:
		return "All"
	case api.EfDiv:
		return "Div"
	}
	return unknown
}
