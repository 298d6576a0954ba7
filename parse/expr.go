package parse

import (
	"avow/api"
)

// anyNumber: of a list: more can't be in a text.
const anyNumber = api.MaxText

// exprAlone reads an expression behind which nothing stands.
func (r *reader) exprAlone() api.Expr {
	out := r.expr()
	r.mustEnd()
	return out
}

// nested has rule read what is one deeper. Where it can't even begin, nothing is too deep: rule refuses it.
func (r *reader) nested(begins bool, rule func() api.Expr) api.Expr {
	if begins && r.depth == api.MaxDepth {
		panic(r.refused(api.ErrDeep))
	}
	r.depth++
	out := rule()
	r.depth--
	return out
}

// beginsExpr tells whether an expr may begin with the next token.
func (r *reader) beginsExpr() bool {
	return r.beginsUnary() || r.seesOneOf("if", "let", "try", "raise", "assert")
}

// beginsUnary tells whether a unary, and so an imp, may begin with the next token.
func (r *reader) beginsUnary() bool {
	tok := r.next().Tok
	return tok == api.TokName || tok == api.TokNum || r.seesOneOf("-", "not", "!", "old", "true", "false", "(")
}

// made tells the expression of an operator and its operands, at a token's place.
func made(op int, at api.Token, operands ...api.Expr) api.Expr {
	return api.Expr{Op: op, L: operands, At: at.At}
}

// named tells the expression of an operator, a name and operands, at a token's place.
func named(op int, at api.Token, name string, operands ...api.Expr) api.Expr {
	return api.Expr{Op: op, Name: name, L: operands, At: at.At}
}

func (r *reader) expr() api.Expr { return r.nested(r.beginsExpr(), r.exprWithin) }

// exprWithin reads an expr, its depth being counted.
func (r *reader) exprWithin() api.Expr {
	switch r.next().Text {
	case "if":
		return r.branch()
	case "let":
		return r.binding()
	case "try":
		return r.handler()
	}
	return r.sequence()
}

func (r *reader) branch() api.Expr {
	first := r.take()
	asked := r.expr()
	r.must("then")
	then := r.expr()
	r.must("else")
	other := r.expr()
	return made(api.EIf, first, asked, then, other)
}

func (r *reader) binding() api.Expr {
	first := r.take()
	name := r.mustBe(api.TokName).Text
	r.must("=")
	bound := r.expr()
	r.must("in")
	body := r.expr()
	return named(api.ELet, first, name, bound, body)
}

func (r *reader) handler() api.Expr {
	first := r.take()
	tried := r.expr()
	r.must("with")
	name := r.mustBe(api.TokName).Text
	r.must("->")
	body := r.expr()
	return named(api.ETry, first, name, tried, body)
}

func (r *reader) sequence() api.Expr {
	left := r.part()
	if !r.sees(";") {
		return left
	}
	sign := r.take()
	right := r.expr()
	return made(api.ESeq, sign, left, right)
}

func (r *reader) part() api.Expr {
	first := r.next()
	switch {
	case first.Tok == api.TokName && r.behindName().Text == ":=":
		r.take()
		r.must(":=")
		return named(api.EWrite, first, first.Text, r.imp())
	case r.takeIf("raise"):
		return made(api.ERaise, first, r.imp())
	case r.takeIf("assert"):
		return made(api.EAssert, first, r.imp())
	}
	return r.imp()
}

func (r *reader) imp() api.Expr {
	left := r.or()
	if !r.sees("==>") {
		return left
	}
	sign := r.take()
	right := r.nested(r.beginsUnary(), r.imp)
	return made(api.EImp, sign, left, right)
}

func (r *reader) or() api.Expr  { return r.chain(r.and, "||") }
func (r *reader) and() api.Expr { return r.chain(r.cmp, "&&") }

func (r *reader) cmp() api.Expr {
	left := r.sum()
	if !r.seesOneOf("=", "<>", "<", "<=", ">", ">=") {
		return left
	}
	return r.joined(left, r.sum)
}

func (r *reader) sum() api.Expr  { return r.chain(r.term, "+", "-") }
func (r *reader) term() api.Expr { return r.chain(r.unary, "*") }

// chain reads operands with one of signs between each two of them, and joins them from the left.
func (r *reader) chain(operand func() api.Expr, signs ...string) api.Expr {
	out := operand()
	for r.seesOneOf(signs...) {
		out = r.joined(out, operand)
	}
	return out
}

// joined reads a sign and its right operand, and joins this to the left one.
func (r *reader) joined(left api.Expr, operand func() api.Expr) api.Expr {
	sign := r.take()
	right := operand()
	return made(operatorOf(sign.Text), sign, left, right)
}

// operatorOf tells the operator of a sign that stands in chains and comparisons.
func operatorOf(sign string) int {
	switch sign {
	case "*":
		return api.EMul
	case "+":
		return api.EAdd
	case "-":
		return api.ESub
	case "=":
		return api.EEq
	case "<>":
		return api.ENe
	case "<":
		return api.ELt
	case "<=":
		return api.ELe
	case ">":
		return api.EGt
	case ">=":
		return api.EGe
	case "&&":
		return api.EAnd
	}
	return api.EOr
}

func (r *reader) unary() api.Expr {
	first := r.next()
	switch {
	case r.takeIf("-"):
		return made(api.ENeg, first, r.unaryBehind())
	case r.takeIf("not"):
		return made(api.ENot, first, r.unaryBehind())
	case r.takeIf("!"):
		return named(api.ERead, first, r.mustBe(api.TokName).Text)
	case r.takeIf("old"):
		return named(api.EOld, first, r.mustBe(api.TokName).Text)
	}
	return r.primary()
}

// unaryBehind reads the unary behind - or not, which counts as one deeper.
func (r *reader) unaryBehind() api.Expr { return r.nested(r.beginsUnary(), r.unary) }

func (r *reader) primary() api.Expr {
	first := r.next()
	switch {
	case first.Tok == api.TokNum:
		return api.Expr{Op: api.ENum, N: r.take().Text, At: first.At}
	case r.takeIf("true"):
		return api.Expr{Op: api.EBool, B: true, At: first.At}
	case r.takeIf("false"):
		return made(api.EBool, first)
	case r.takeIf("("):
		return r.bracketed(first)
	case first.Tok == api.TokName && r.behindName().Text == "(":
		return r.call()
	}
	return named(api.EVar, first, r.mustBe(api.TokName).Text)
}

// bracketed reads what stands behind a bracket that isn't a call's.
func (r *reader) bracketed(bracket api.Token) api.Expr {
	if r.takeIf(")") {
		return made(api.EUnit, bracket)
	}
	out := r.expr()
	r.must(")")
	return out
}

func (r *reader) call() api.Expr {
	name := r.take()
	r.must("(")
	if r.takeIf(")") {
		return named(api.ECall, name, name.Text)
	}
	arguments := r.exprs(api.MaxArgs)
	r.must(")")
	return named(api.ECall, name, name.Text, arguments...)
}

// exprs reads at least one expr and at most so many, with commas between.
func (r *reader) exprs(most int) []api.Expr {
	out := []api.Expr{r.expr()}
	for r.sees(",") {
		if len(out) == most {
			panic(r.refused(api.ErrMany))
		}
		r.take()
		out = append(out, r.expr())
	}
	return out
}
