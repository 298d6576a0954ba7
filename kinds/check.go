package kinds

import (
	"avow/api"
)

const mostMeasures = 4 // of one definition

// checker checks one definition.
type checker struct {
	*kinder // its binders are the parameters, as far as they count where it has come
	number  int
	d       *api.Decl
}

// definition checks the definition of that number.
func (p *program) definition(number int) {
	c := &checker{kinder: p.within(number, nil), number: number, d: p.def(number)}
	if !hasMeasure(c.d) {
		refuse(c.d.At, api.ErrMeasure)
	}
	c.contract()
	c.body()
}

// hasMeasure tells whether a definition has a measure where it must have one, and none where it may not.
func hasMeasure(d *api.Decl) bool {
	if d.Rec && d.Effect != api.EfDiv {
		return len(d.Measure) > 0 && len(d.Measure) <= mostMeasures
	}
	return len(d.Measure) == 0
}

// contract checks the formulas, and leaves the parameters as binders.
func (c *checker) contract() {
	mayRead := allowed(c.d.Effect)&cells != 0
	for i := range c.d.Params {
		p := &c.d.Params[i]
		c.spend(p.At)
		c.refinement(&p.T)
		c.bind(p.T.Kind)
	}
	c.formulas(c.d.Requires, api.TyBool, mayRead)
	c.refinement(&c.d.T)
	c.bind(c.d.T.Kind)
	c.formulas(c.d.Ensures, api.TyBool, mayRead)
	c.unbind()
	c.formulas(c.d.Measure, api.TyInt, mayRead)
}

func (c *checker) refinement(t *api.Type) {
	c.bind(api.TyInt)
	c.formulas(t.R, api.TyBool, false)
	c.unbind()
}

// formulas checks formulas of a kind, which may read cells, or not.
func (c *checker) formulas(l []api.Expr, kind int, mayRead bool) {
	for i := range l {
		c.mustBe(&l[i], kind)
		c.form(&l[i], mayRead)
	}
}

// form holds that nothing in a formula is what none may say.
func (c *checker) form(e *api.Expr, mayRead bool) {
	c.enter(e)
	if !c.maySay(e, mayRead) {
		refuse(e.At, api.ErrPure)
	}
	for i := range e.L {
		c.form(&e.L[i], mayRead)
	}
	c.leave()
}

// maySay tells whether a formula may have an expression's operator, whatever its operands.
func (c *checker) maySay(e *api.Expr, mayRead bool) bool {
	switch e.Op {
	case api.EWrite, api.ERaise, api.EAssert, api.ESeq, api.ETry:
		return false
	case api.ERead, api.EOld:
		return mayRead
	case api.ECall:
		return e.I != c.number && c.def(e.I).Effect == api.EfPure
	}
	return true
}

func (c *checker) body() {
	body := &c.d.Body
	c.mustBe(body, c.d.T.Kind)
	if c.effectsOf(body)&^allowed(c.d.Effect) != nothing {
		refuse(body.At, api.ErrEffect)
	}
}
