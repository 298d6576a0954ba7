package parse

import (
	"avow/api"
)

func (r *reader) program() []api.Decl {
	var out []api.Decl
	for r.seesOneOf("ref", "let") {
		if len(out) == api.MaxDecls {
			panic(r.refused(api.ErrMany))
		}
		out = append(out, r.decl())
	}
	r.mustEnd()
	return out
}

func (r *reader) decl() api.Decl {
	if r.takeIf("ref") {
		return r.cell()
	}
	r.must("let")
	return r.definition()
}

func (r *reader) cell() api.Decl {
	name := r.mustBe(api.TokName)
	r.must(":=")
	below := r.takeIf("-")
	number := r.mustBe(api.TokNum).Text
	if below && number != "0" {
		number = "-" + number
	}
	r.must(";;")
	return api.Decl{Cell: true, Name: name.Text, N: number, At: name.At}
}

func (r *reader) definition() api.Decl {
	var out api.Decl
	out.Rec = r.takeIf("rec")
	name := r.mustBe(api.TokName)
	out.Name, out.At = name.Text, name.At
	out.Params = r.params()
	r.must(":")
	out.Effect = r.effect()
	out.T = r.typeOf()
	r.contract(&out)
	r.must("is")
	out.Body = r.expr()
	r.must(";;")
	return out
}

func (r *reader) params() []api.Param {
	var out []api.Param
	for r.sees("(") {
		if len(out) == api.MaxArgs {
			panic(r.refused(api.ErrMany))
		}
		out = append(out, r.param())
	}
	return out
}

func (r *reader) param() api.Param {
	r.must("(")
	name := r.mustBe(api.TokName)
	r.must(":")
	out := api.Param{Name: name.Text, T: r.typeOf(), At: name.At}
	r.must(")")
	return out
}

func (r *reader) effect() int {
	out := effectOf(r.next().Text)
	if out == 0 {
		panic(r.refused(api.ErrParse))
	}
	r.take()
	return out
}

// effectOf tells a word's effect; 0, if it is none's.
func effectOf(word string) int {
	switch word {
	case "Pure":
		return api.EfPure
	case "State":
		return api.EfState
	case "Exn":
		return api.EfExn
	case "All":
		return api.EfAll
	case "Div":
		return api.EfDiv
	}
	return 0
}

// typeOf reads the type of a parameter, or of what a definition answers.
func (r *reader) typeOf() api.Type {
	if r.sees("{") {
		return r.refinement()
	}
	kind := kindOf(r.next().Text)
	if kind == 0 {
		panic(r.refused(api.ErrParse))
	}
	return api.Type{Kind: kind, At: r.take().At}
}

// kindOf tells a word's kind; 0, if it is none's.
func kindOf(word string) int {
	switch word {
	case "int":
		return api.TyInt
	case "bool":
		return api.TyBool
	case "unit":
		return api.TyUnit
	}
	return 0
}

func (r *reader) refinement() api.Type {
	out := api.Type{Kind: api.TyInt, At: r.take().At}
	out.Name = r.mustBe(api.TokName).Text
	r.must(":")
	r.must("int")
	r.must("|")
	out.R = []api.Expr{r.expr()}
	r.must("}")
	return out
}

// contract reads what d requires and ensures, and its measure.
func (r *reader) contract(d *api.Decl) {
	if r.takeIf("requires") {
		d.Requires = []api.Expr{r.expr()}
	}
	if r.takeIf("ensures") {
		d.Result = r.mustBe(api.TokName).Text
		r.must(".")
		d.Ensures = []api.Expr{r.expr()}
	}
	if r.takeIf("decreases") {
		d.Measure = r.exprs(anyNumber)
	}
}
