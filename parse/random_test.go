package parse_test

import (
	"math/rand"
	"reflect"
	"slices"
	"strings"
	"testing"

	"avow/api"
	"avow/lex"
)

// speaker says a program by the chapter's rules, each of which it goes through by chance, and makes the tree that must be read. What stands between tokens comes of a chance of its own, so that the same program can be said otherwise.
type speaker struct {
	chance, gaps *rand.Rand
	text         strings.Builder
	room         int // so many exprs and the like may still be chosen where another may stand
}

func newSpeaker(seed, gaps int64, room int) *speaker {
	return &speaker{chance: rand.New(rand.NewSource(seed)), gaps: rand.New(rand.NewSource(gaps)), room: room}
}

// gap says something that may stand between tokens.
func (s *speaker) gap() {
	all := []string{"\t", "\n", "\r", "(**)", "(* x *)", "(*)*)", "(* (* ;; é *)", "(*\n*)"}
	s.text.WriteString(" ")
	for s.gaps.Intn(6) == 0 {
		s.text.WriteString(all[s.gaps.Intn(len(all))])
	}
}

// say says tokens, and tells the place of the first one.
func (s *speaker) say(tokens ...string) int {
	at := 0
	for i, k := range tokens {
		s.gap()
		if i == 0 {
			at = s.text.Len()
		}
		s.text.WriteString(k)
	}
	s.gap()
	return at
}

// oneIn tells true one time in n, and false where there is no more room.
func (s *speaker) oneIn(n int) bool {
	if s.chance.Intn(n) > 0 || s.room <= 0 {
		return false
	}
	s.room--
	return true
}

func (s *speaker) pick(l ...string) string { return l[s.chance.Intn(len(l))] }

func (s *speaker) name() string {
	return s.pick("x", "y", "f", "_", "é", "x1", "Int", strings.Repeat("n", api.MaxName))
}

func (s *speaker) number() string {
	return s.pick("0", "1", "10", "907", strings.Repeat("9", api.MaxDigits))
}

func (s *speaker) program() []api.Decl {
	var out []api.Decl
	for range s.chance.Intn(4) {
		if s.chance.Intn(3) == 0 {
			out = append(out, s.cell())
		} else {
			out = append(out, s.definition())
		}
	}
	return out
}

func (s *speaker) cell() api.Decl {
	out := api.Decl{Cell: true, Name: s.name(), N: s.number()}
	s.say("ref")
	out.At = s.say(out.Name)
	s.say(":=")
	if s.chance.Intn(2) == 0 {
		s.say("-", out.N)
		if out.N != "0" {
			out.N = "-" + out.N
		}
	} else {
		s.say(out.N)
	}
	s.say(";;")
	return out
}

func (s *speaker) definition() api.Decl {
	out := api.Decl{Name: s.name(), Rec: s.chance.Intn(2) == 0}
	s.say("let")
	if out.Rec {
		s.say("rec")
	}
	out.At = s.say(out.Name)
	for range s.chance.Intn(3) {
		s.say("(")
		p := api.Param{Name: s.name()}
		p.At = s.say(p.Name)
		s.say(":")
		p.T = s.typeOf()
		s.say(")")
		out.Params = append(out.Params, p)
	}
	out.Effect = 1 + s.chance.Intn(5)
	s.say(":", []string{api.EfPure: "Pure", api.EfState: "State", api.EfExn: "Exn", api.EfAll: "All", api.EfDiv: "Div"}[out.Effect])
	out.T = s.typeOf()
	s.contract(&out)
	s.say("is")
	out.Body = s.expr()
	s.say(";;")
	return out
}

func (s *speaker) contract(d *api.Decl) {
	if s.chance.Intn(3) == 0 {
		s.say("requires")
		d.Requires = []api.Expr{s.expr()}
	}
	if s.chance.Intn(3) == 0 {
		d.Result = s.name()
		s.say("ensures", d.Result, ".")
		d.Ensures = []api.Expr{s.expr()}
	}
	if s.chance.Intn(3) == 0 {
		s.say("decreases")
		d.Measure = s.exprs(12)
	}
}

func (s *speaker) typeOf() api.Type {
	if s.chance.Intn(3) > 0 {
		kind := 1 + s.chance.Intn(3)
		return api.Type{Kind: kind, At: s.say([]string{api.TyInt: "int", api.TyBool: "bool", api.TyUnit: "unit"}[kind])}
	}
	out := api.Type{Kind: api.TyInt, Name: s.name()}
	out.At = s.say("{")
	s.say(out.Name, ":", "int", "|")
	out.R = []api.Expr{s.expr()}
	s.say("}")
	return out
}

// exprs says between one and so many.
func (s *speaker) exprs(most int) []api.Expr {
	out := []api.Expr{s.expr()}
	for len(out) < most && s.oneIn(2) {
		s.say(",")
		out = append(out, s.expr())
	}
	return out
}

func (s *speaker) expr() api.Expr {
	switch {
	case s.oneIn(6):
		at := s.say("if")
		a := s.expr()
		s.say("then")
		b := s.expr()
		s.say("else")
		return api.Expr{Op: api.EIf, L: []api.Expr{a, b, s.expr()}, At: at}
	case s.oneIn(6):
		name := s.name()
		at := s.say("let", name, "=")
		a := s.expr()
		s.say("in")
		return api.Expr{Op: api.ELet, Name: name, L: []api.Expr{a, s.expr()}, At: at}
	case s.oneIn(6):
		name := s.name()
		at := s.say("try")
		a := s.expr()
		s.say("with", name, "->")
		return api.Expr{Op: api.ETry, Name: name, L: []api.Expr{a, s.expr()}, At: at}
	}
	left := s.part()
	if !s.oneIn(4) {
		return left
	}
	at := s.say(";")
	return api.Expr{Op: api.ESeq, L: []api.Expr{left, s.expr()}, At: at}
}

func (s *speaker) part() api.Expr {
	switch s.chance.Intn(8) {
	case 0:
		name := s.name()
		at := s.say(name, ":=")
		return api.Expr{Op: api.EWrite, Name: name, L: []api.Expr{s.imp()}, At: at}
	case 1:
		at := s.say("raise")
		return api.Expr{Op: api.ERaise, L: []api.Expr{s.imp()}, At: at}
	case 2:
		at := s.say("assert")
		return api.Expr{Op: api.EAssert, L: []api.Expr{s.imp()}, At: at}
	}
	return s.imp()
}

func (s *speaker) imp() api.Expr {
	left := s.or()
	if !s.oneIn(5) {
		return left
	}
	at := s.say("==>")
	return api.Expr{Op: api.EImp, L: []api.Expr{left, s.imp()}, At: at}
}

// chain says operands with signs between, so many of these at most.
func (s *speaker) chain(operand func() api.Expr, most int, signs map[string]int) api.Expr {
	out := operand()
	all := make([]string, 0, len(signs))
	for sign := range signs {
		all = append(all, sign)
	}
	slices.Sort(all)
	for i := 0; i < most && s.oneIn(5); i++ {
		sign := s.pick(all...)
		at := s.say(sign)
		out = api.Expr{Op: signs[sign], L: []api.Expr{out, operand()}, At: at}
	}
	return out
}

func (s *speaker) or() api.Expr  { return s.chain(s.and, 9, map[string]int{"||": api.EOr}) }
func (s *speaker) and() api.Expr { return s.chain(s.cmp, 9, map[string]int{"&&": api.EAnd}) }
func (s *speaker) cmp() api.Expr {
	return s.chain(s.sum, 1, map[string]int{"=": api.EEq, "<>": api.ENe, "<": api.ELt, "<=": api.ELe, ">": api.EGt, ">=": api.EGe})
}
func (s *speaker) sum() api.Expr {
	return s.chain(s.term, 9, map[string]int{"+": api.EAdd, "-": api.ESub})
}
func (s *speaker) term() api.Expr { return s.chain(s.unary, 9, map[string]int{"*": api.EMul}) }

func (s *speaker) unary() api.Expr {
	switch {
	case s.oneIn(9):
		at := s.say("-")
		return api.Expr{Op: api.ENeg, L: []api.Expr{s.unary()}, At: at}
	case s.oneIn(9):
		at := s.say("not")
		return api.Expr{Op: api.ENot, L: []api.Expr{s.unary()}, At: at}
	case s.chance.Intn(9) == 0:
		name := s.name()
		return api.Expr{Op: api.ERead, Name: name, At: s.say("!", name)}
	case s.chance.Intn(9) == 0:
		name := s.name()
		return api.Expr{Op: api.EOld, Name: name, At: s.say("old", name)}
	}
	return s.primary()
}

func (s *speaker) primary() api.Expr {
	switch {
	case s.oneIn(4):
		s.say("(")
		out := s.expr()
		s.say(")")
		return out
	case s.oneIn(4):
		out := api.Expr{Op: api.ECall, Name: s.name()}
		out.At = s.say(out.Name, "(")
		if s.chance.Intn(3) > 0 {
			out.L = s.exprs(api.MaxArgs)
		}
		s.say(")")
		return out
	}
	switch s.chance.Intn(5) {
	case 0:
		number := s.number()
		return api.Expr{Op: api.ENum, N: number, At: s.say(number)}
	case 1:
		return api.Expr{Op: api.EBool, B: true, At: s.say("true")}
	case 2:
		return api.Expr{Op: api.EBool, At: s.say("false")}
	case 3:
		return api.Expr{Op: api.EUnit, At: s.say("(", ")")}
	}
	name := s.name()
	return api.Expr{Op: api.EVar, Name: name, At: s.say(name)}
}

// TestSpokenPrograms holds trees and places against those that texts were made by.
func TestSpokenPrograms(t *testing.T) {
	for seed := range int64(4000) {
		s := newSpeaker(seed, seed, 40)
		wanted := s.program()
		got, wrong := askProgram(t, s.text.String())
		if wrong != nil || !sameButEmpty(got, wanted) {
			t.Fatalf("P15.2: %q: %+v, %v, wanted %+v", s.text.String(), got, wrong, wanted)
		}
	}
}

// TestSpokenExprs is as TestSpokenPrograms, of Expr.
func TestSpokenExprs(t *testing.T) {
	for seed := range int64(8000) {
		s := newSpeaker(seed, seed, 40)
		wanted := s.expr()
		got, wrong := askExpr(t, s.text.String())
		if wrong != nil || !sameButEmpty(got, wanted) {
			t.Fatalf("P15.2: %q: %+v, %v, wanted %+v", s.text.String(), got, wrong, wanted)
		}
	}
}

// sameButEmpty tells whether two are the same, a nil list being an empty one.
func sameButEmpty(a, b any) bool {
	return reflect.DeepEqual(a, b) || reflect.DeepEqual(told(reflect.ValueOf(a)), told(reflect.ValueOf(b)))
}

// told tells a value as nested lists, empty ones as nil.
func told(v reflect.Value) any {
	var out []any
	switch v.Kind() {
	case reflect.Slice:
		for i := range v.Len() {
			out = append(out, told(v.Index(i)))
		}
		return out
	case reflect.Struct:
		for i := range v.NumField() {
			out = append(out, told(v.Field(i)))
		}
		return out
	}
	return v.Interface()
}

// TestSaidOtherwise says programs with other blanks and comments: the same tokens, at other places.
func TestSaidOtherwise(t *testing.T) {
	for seed := range int64(2000) {
		a, b := newSpeaker(seed, 1, 40), newSpeaker(seed, seed+2, 40)
		a.program()
		b.program()
		first, wrong := askProgram(t, a.text.String())
		second, wrongToo := askProgram(t, b.text.String())
		if wrong != nil || wrongToo != nil || !sameButEmpty(withoutPlaces(first), withoutPlaces(second)) {
			t.Fatalf("P15.4: %q and %q: %+v, %v and %+v, %v", a.text.String(), b.text.String(), first, wrong, second, wrongToo)
		}
	}
}

// withoutPlaces tells declarations with all places 0, in new memory.
func withoutPlaces(l []api.Decl) []api.Decl {
	out := slices.Clone(l)
	for i := range out {
		d := &out[i]
		d.At, d.T.At, d.T.R = 0, 0, bare(d.T.R)
		d.Params = slices.Clone(d.Params)
		for j := range d.Params {
			p := &d.Params[j]
			p.At, p.T.At, p.T.R = 0, 0, bare(p.T.R)
		}
		d.Requires, d.Ensures, d.Measure = bare(d.Requires), bare(d.Ensures), bare(d.Measure)
		d.Body = bare([]api.Expr{d.Body})[0]
	}
	return out
}

func bare(l []api.Expr) []api.Expr {
	out := slices.Clone(l)
	for i := range out {
		out[i].At, out[i].L = 0, bare(out[i].L)
	}
	return out
}

// TestChangedTexts takes tokens out of right texts, puts others in or in their place, cuts them off, and holds what is told against the chapter's rules.
func TestChangedTexts(t *testing.T) {
	g := chapterGrammar()
	all := append(g.terminals(), "x", "y", "0", "12")
	r := rand.New(rand.NewSource(15))
	for seed := range int64(6000) {
		s := newSpeaker(seed, seed, 12)
		start, ask := "program", holdProgram
		if seed%2 == 0 {
			start, ask = "alone", holdExpr
			s.expr()
		} else {
			s.program()
		}
		tokens, err := lex.Tokens(s.text.String())
		if err != nil {
			t.Fatal(err)
		}
		var l []string
		for _, k := range tokens[:min(len(tokens)-1, 80)] {
			l = append(l, k.Text)
		}
		for range 1 + r.Intn(2) {
			l = changed(r, l, all)
		}
		if at := firstWrong(t, g, start, strings.Join(l, " ")); at == 0 && r.Intn(4) > 0 {
			continue
		}
		ask(t, g, strings.Join(l, " "))
	}
}

func changed(r *rand.Rand, l, all []string) []string {
	at := r.Intn(len(l) + 1)
	other := all[r.Intn(len(all))]
	switch what := r.Intn(5); {
	case what == 0 || at == len(l):
		return slices.Insert(slices.Clone(l), at, other)
	case what == 1:
		return slices.Delete(slices.Clone(l), at, at+1)
	case what == 2:
		return slices.Clone(l[:at])
	}
	out := slices.Clone(l)
	out[at] = other
	return out
}

// TestSmallTexts goes through all beginnings of right texts, up to some length, and holds each of them, and each that is wrong by one token more, against the chapter's rules.
func TestSmallTexts(t *testing.T) {
	g := chapterGrammar()
	all := append(g.terminals(), "x", "1")
	var walk func(f *follow, text string, more int, ask func(*testing.T, grammar, string))
	walk = func(f *follow, text string, more int, ask func(*testing.T, grammar, string)) {
		ask(t, g, text)
		for _, k := range all {
			symbol := map[string]string{"x": "name", "1": "num"}[k]
			if symbol == "" {
				symbol = k
			}
			if !f.take(symbol) {
				ask(t, g, text+k)
				continue
			}
			if more > 0 {
				walk(f, text+k+" ", more-1, ask)
			}
			f.back()
		}
	}
	walk(newFollow(g, "alone"), "", 3, holdExpr)
	walk(newFollow(g, "program"), "", 6, holdProgram)
}
