package parse_test

import (
	"strconv"
	"strings"
	"testing"

	"avow/api"
)

func variable(name string, at int) api.Expr { return api.Expr{Op: api.EVar, Name: name, At: at} }
func number(n string, at int) api.Expr      { return api.Expr{Op: api.ENum, N: n, At: at} }
func of(op, at int, l ...api.Expr) api.Expr { return api.Expr{Op: op, L: l, At: at} }
func ofName(op int, name string, at int, l ...api.Expr) api.Expr {
	return api.Expr{Op: op, Name: name, L: l, At: at}
}

func TestTreesOfExprs(t *testing.T) {
	a, c := variable("a", 0), number("1", 0)
	for _, x := range []struct {
		text   string
		wanted api.Expr
	}{
		{"12", number("12", 0)}, {" 0", number("0", 1)}, {"true", api.Expr{Op: api.EBool, B: true}}, {"false", api.Expr{Op: api.EBool}},
		{"()", of(api.EUnit, 0)}, {" (\n) ", of(api.EUnit, 1)}, {"(())", of(api.EUnit, 1)}, {"x", variable("x", 0)}, {"((x))", variable("x", 2)},
		{"f()", ofName(api.ECall, "f", 0)}, {" f ( )", ofName(api.ECall, "f", 1)}, {"f(a,1)", ofName(api.ECall, "f", 0, variable("a", 2), number("1", 4))}, {"f((a),())", ofName(api.ECall, "f", 0, variable("a", 3), of(api.EUnit, 6))},
		{"!x", ofName(api.ERead, "x", 0)}, {" ! x", ofName(api.ERead, "x", 1)}, {"old x", ofName(api.EOld, "x", 0)},
		{"-1", of(api.ENeg, 0, number("1", 1))}, {"- - a", of(api.ENeg, 0, of(api.ENeg, 2, variable("a", 4)))}, {"not a", of(api.ENot, 0, variable("a", 4))}, {"not-!a", of(api.ENot, 0, of(api.ENeg, 3, ofName(api.ERead, "a", 4)))},
		{"a * 1", of(api.EMul, 2, a, number("1", 4))}, {"a + 1", of(api.EAdd, 2, a, number("1", 4))}, {"a - 1", of(api.ESub, 2, a, number("1", 4))},
		{"a = 1", of(api.EEq, 2, a, number("1", 4))}, {"a <> 1", of(api.ENe, 2, a, number("1", 5))}, {"a < 1", of(api.ELt, 2, a, number("1", 4))}, {"a <= 1", of(api.ELe, 2, a, number("1", 5))}, {"a > 1", of(api.EGt, 2, a, number("1", 4))}, {"a >= 1", of(api.EGe, 2, a, number("1", 5))},
		{"a && 1", of(api.EAnd, 2, a, number("1", 5))}, {"a || 1", of(api.EOr, 2, a, number("1", 5))}, {"a ==> 1", of(api.EImp, 2, a, number("1", 6))},
		{"if a then b else c", of(api.EIf, 0, variable("a", 3), variable("b", 10), variable("c", 17))},
		{"let x = a in b", ofName(api.ELet, "x", 0, variable("a", 8), variable("b", 13))},
		{"try a with x -> b", ofName(api.ETry, "x", 0, variable("a", 4), variable("b", 16))},
		{"a ; b", of(api.ESeq, 2, a, variable("b", 4))}, {"x := a", ofName(api.EWrite, "x", 0, variable("a", 5))}, {"raise a", of(api.ERaise, 0, variable("a", 6))}, {"assert a", of(api.EAssert, 0, variable("a", 7))},
		// equals from the left, but ==>
		{"1-a-b", of(api.ESub, 3, of(api.ESub, 1, c, variable("a", 2)), variable("b", 4))}, {"1+a-b", of(api.ESub, 3, of(api.EAdd, 1, c, variable("a", 2)), variable("b", 4))}, {"1*a*b", of(api.EMul, 3, of(api.EMul, 1, c, variable("a", 2)), variable("b", 4))},
		{"1||a||b", of(api.EOr, 4, of(api.EOr, 1, c, variable("a", 3)), variable("b", 6))}, {"1&&a&&b", of(api.EAnd, 4, of(api.EAnd, 1, c, variable("a", 3)), variable("b", 6))},
		{"1==>a==>b", of(api.EImp, 1, c, of(api.EImp, 5, variable("a", 4), variable("b", 8)))}, {"1;a;b", of(api.ESeq, 1, c, of(api.ESeq, 3, variable("a", 2), variable("b", 4)))},
		{"1-(a-b)", of(api.ESub, 1, c, of(api.ESub, 4, variable("a", 3), variable("b", 5)))}, {"(1==>a)==>b", of(api.EImp, 7, of(api.EImp, 2, number("1", 1), variable("a", 5)), variable("b", 10))},
		// what binds more
		{"1 + 2 * x", of(api.EAdd, 2, c, of(api.EMul, 6, number("2", 4), variable("x", 8)))}, {"1*2+x", of(api.EAdd, 3, of(api.EMul, 1, c, number("2", 2)), variable("x", 4))}, {"-a*b", of(api.EMul, 2, of(api.ENeg, 0, variable("a", 1)), variable("b", 3))},
		{"a*-b", of(api.EMul, 1, a, of(api.ENeg, 2, variable("b", 3)))}, {"a--b", of(api.ESub, 1, a, of(api.ENeg, 2, variable("b", 3)))}, {"not a=b", of(api.EEq, 5, of(api.ENot, 0, variable("a", 4)), variable("b", 6))},
		{"a<b+1", of(api.ELt, 1, a, of(api.EAdd, 3, variable("b", 2), number("1", 4)))}, {"a&&b=1", of(api.EAnd, 1, a, of(api.EEq, 4, variable("b", 3), number("1", 5)))}, {"a||b&&1", of(api.EOr, 1, a, of(api.EAnd, 4, variable("b", 3), number("1", 6)))}, {"a&&b||1", of(api.EOr, 4, of(api.EAnd, 1, a, variable("b", 3)), number("1", 6))},
		{"a||b==>1", of(api.EImp, 4, of(api.EOr, 1, a, variable("b", 3)), number("1", 7))}, {"x:=a==>b", ofName(api.EWrite, "x", 0, of(api.EImp, 4, variable("a", 3), variable("b", 7)))}, {"raise a;b", of(api.ESeq, 7, of(api.ERaise, 0, variable("a", 6)), variable("b", 8))},
		{"let x=a in b;c", ofName(api.ELet, "x", 0, variable("a", 6), of(api.ESeq, 12, variable("b", 11), variable("c", 13)))}, {"a;if b then c else d;e", of(api.ESeq, 1, a, of(api.EIf, 2, variable("b", 5), variable("c", 12), of(api.ESeq, 20, variable("d", 19), variable("e", 21))))},
		{"f(x:=1;a)", ofName(api.ECall, "f", 0, of(api.ESeq, 6, ofName(api.EWrite, "x", 2, number("1", 5)), variable("a", 7)))}, {"(a;b)+(c)", of(api.EAdd, 5, of(api.ESeq, 2, variable("a", 1), variable("b", 3)), variable("c", 7))},
	} {
		got, wrong := askExpr(t, x.text)
		if wrong != nil || !sameButEmpty(got, x.wanted) {
			t.Errorf("P15.2: %q: %+v, %v, wanted %+v", x.text, got, wrong, x.wanted)
		}
	}
}

func TestTreesOfDecls(t *testing.T) {
	refined := api.Type{Kind: api.TyInt, Name: "v", At: 19, R: []api.Expr{of(api.EGt, 30, variable("v", 28), number("0", 32))}}
	for _, x := range []struct {
		text   string
		wanted []api.Decl
	}{
		{"", nil}, {" (* nothing *)\n", nil},
		{"ref x := 7;;", []api.Decl{{Cell: true, Name: "x", N: "7", At: 4}}}, {"ref x:=-7;;", []api.Decl{{Cell: true, Name: "x", N: "-7", At: 4}}}, {"ref x := (**) - (**) 70 ;;", []api.Decl{{Cell: true, Name: "x", N: "-70", At: 4}}},
		{"ref x := 0;;", []api.Decl{{Cell: true, Name: "x", N: "0", At: 4}}}, {"ref x := -0;;", []api.Decl{{Cell: true, Name: "x", N: "0", At: 4}}},
		{"let f : Pure int is 1;;ref f := 1;;", []api.Decl{{Name: "f", Effect: api.EfPure, T: api.Type{Kind: api.TyInt, At: 13}, Body: number("1", 20), At: 4}, {Cell: true, Name: "f", N: "1", At: 27}}},
		{"let rec f : Div bool is a;;", []api.Decl{{Rec: true, Name: "f", Effect: api.EfDiv, T: api.Type{Kind: api.TyBool, At: 16}, Body: variable("a", 24), At: 8}}},
		{"let f (u : unit) : State unit is u;;", []api.Decl{{Name: "f", Params: []api.Param{{Name: "u", T: api.Type{Kind: api.TyUnit, At: 11}, At: 7}}, Effect: api.EfState, T: api.Type{Kind: api.TyUnit, At: 25}, Body: variable("u", 33), At: 4}}},
		{"let f (a:int)(b : {v : int | v > 0}) : Exn int is a;;", []api.Decl{{Name: "f", Params: []api.Param{{Name: "a", T: api.Type{Kind: api.TyInt, At: 9}, At: 7}, {Name: "b", T: api.Type{Kind: api.TyInt, Name: "v", At: 18, R: []api.Expr{of(api.EGt, 31, variable("v", 29), number("0", 33))}}, At: 14}}, Effect: api.EfExn, T: api.Type{Kind: api.TyInt, At: 43}, Body: variable("a", 50), At: 4}}},
		{"let foo : (**) All {v : int|v > 0} is 1;;", []api.Decl{{Name: "foo", Effect: api.EfAll, T: refined, Body: number("1", 38), At: 4}}},
		{"let f : Pure int requires a ensures r. b decreases c, d is 1;;", []api.Decl{{Name: "f", Effect: api.EfPure, T: api.Type{Kind: api.TyInt, At: 13}, Requires: []api.Expr{variable("a", 26)}, Result: "r", Ensures: []api.Expr{variable("b", 39)}, Measure: []api.Expr{variable("c", 51), variable("d", 54)}, Body: number("1", 59), At: 4}}},
		{"let f : Pure int ensures r. b is 1;;", []api.Decl{{Name: "f", Effect: api.EfPure, T: api.Type{Kind: api.TyInt, At: 13}, Result: "r", Ensures: []api.Expr{variable("b", 28)}, Body: number("1", 33), At: 4}}},
	} {
		got, wrong := askProgram(t, x.text)
		if wrong != nil || !sameButEmpty(got, x.wanted) {
			t.Errorf("P15.2: %q: %+v, %v, wanted %+v", x.text, got, wrong, x.wanted)
		}
	}
}

// TestBrackets holds that brackets round what is one say nothing but places, as long as it isn't too deep.
func TestBrackets(t *testing.T) {
	for _, x := range [][2]string{
		{"a", "((((a))))"}, {"1 + 2 * x", "((1) + (((2) * (x))))"}, {"a - b - c", "((a - b) - c)"}, {"a ==> b ==> c", "a ==> (b ==> c)"}, {"a; b; c", "(a); ((b); (c))"}, {"- a * b", "((- (a)) * b)"}, {"not a && b", "(not a) && b"},
		{"if a then b else c", "(if (a) then ((b)) else (c))"}, {"let x = a in b; c", "(let x = (a) in ((b); c))"}, {"try a; b with x -> c; d", "try (a; b) with x -> (c; d)"}, {"x := a ==> b; c", "(x := (a ==> b)); c"}, {"raise a + b", "raise (a + b)"}, {"assert a = b", "(assert ((a) = (b)))"},
		{"f(a; b, c)", "(f((a; b), (c)))"}, {"!x + old y", "((!x) + (old y))"}, {"()", "(((())))"},
	} {
		a, wrong := askExpr(t, x[0])
		b, wrongToo := askExpr(t, x[1])
		if wrong != nil || wrongToo != nil || !sameButEmpty(bare([]api.Expr{a}), bare([]api.Expr{b})) {
			t.Errorf("P15.4: %q, %q: %+v, %v and %+v, %v", x[0], x[1], a, wrong, b, wrongToo)
		}
	}
}

type wrongText struct {
	text string
	at   int
	err  api.Errno
}

func TestWrongExprs(t *testing.T) {
	long := strings.Repeat(" ", api.MaxText)
	for _, x := range []wrongText{
		{"", 0, api.ErrParse}, {" ", 1, api.ErrParse}, {"(* a *)", 7, api.ErrParse}, {"1 1", 2, api.ErrParse}, {"a b", 2, api.ErrParse}, {"1;;", 1, api.ErrParse}, {"1;", 2, api.ErrParse}, {";1", 0, api.ErrParse},
		{"a = b = c", 6, api.ErrParse}, {"a < b >= c", 6, api.ErrParse}, {"a + not", 7, api.ErrParse}, {"1 + if a then b else c", 4, api.ErrParse}, {"a && raise 1", 5, api.ErrParse}, {"x := raise 1", 5, api.ErrParse}, {"x := y := 1", 7, api.ErrParse}, {"raise x := 1", 8, api.ErrParse}, {"1 + x := 2", 6, api.ErrParse}, {"(x) := 1", 4, api.ErrParse}, {"1 := 1", 2, api.ErrParse},
		{"- if a then b else c", 2, api.ErrParse}, {"a ==> let x = 1 in x", 6, api.ErrParse}, {"a ==> x := 1", 8, api.ErrParse}, {"!(x)", 1, api.ErrParse}, {"!1", 1, api.ErrParse}, {"!!x", 1, api.ErrParse}, {"old 1", 4, api.ErrParse}, {"old f(x)", 5, api.ErrParse}, {"!f(x)", 2, api.ErrParse}, {"1(x)", 1, api.ErrParse}, {"f(x)(y)", 4, api.ErrParse}, {"(f)(x)", 3, api.ErrParse},
		{"f(", 2, api.ErrParse}, {"f(,)", 2, api.ErrParse}, {"f(a,)", 4, api.ErrParse}, {"f(a b)", 4, api.ErrParse}, {"f(a;)", 4, api.ErrParse}, {"(", 1, api.ErrParse}, {"(a", 2, api.ErrParse}, {"a)", 1, api.ErrParse}, {"(a,b)", 2, api.ErrParse}, {")", 0, api.ErrParse},
		{"if a then b", 11, api.ErrParse}, {"if a else b", 5, api.ErrParse}, {"if then", 3, api.ErrParse}, {"let 1 = 1 in 1", 4, api.ErrParse}, {"let in = 1 in 1", 4, api.ErrParse}, {"let x := 1 in 1", 6, api.ErrParse}, {"let x = 1", 9, api.ErrParse}, {"let rec x = 1 in 1", 4, api.ErrParse}, {"try a with -> b", 11, api.ErrParse}, {"try a with x b", 13, api.ErrParse}, {"try a", 5, api.ErrParse}, {"let f : Pure int is 1;;", 6, api.ErrParse},
		{"int", 0, api.ErrParse}, {"Pure", 0, api.ErrParse}, {"a is b", 2, api.ErrParse}, {"{x}", 0, api.ErrParse}, {"a | b", 2, api.ErrParse}, {"a.b", 1, api.ErrParse}, {"a -> b", 2, api.ErrParse}, {"a : int", 2, api.ErrParse}, {"+1", 0, api.ErrParse}, {"*1", 0, api.ErrParse}, {"1 +", 3, api.ErrParse},
		// lex's count ahead of all others
		{"?", 0, api.ErrLex}, {"1 1 ?", 4, api.ErrLex}, {") 007", 2, api.ErrLex}, {"(* a", 0, api.ErrLex}, {"a \xff", 2, api.ErrLex}, {") " + strings.Repeat("n", api.MaxName+1), 2, api.ErrLexBig}, {"1 1 " + strings.Repeat("9", api.MaxDigits+1), 4, api.ErrLexBig}, {long + "1", api.MaxText, api.ErrLexBig}, {long, api.MaxText, api.ErrParse}, {strings.Repeat("(", 300) + "?", 300, api.ErrLex}, {"f(1,2,3,4,5,6,7,8,9) &", 21, api.ErrLex},
	} {
		if _, wrong := askExpr(t, x.text); wrong == nil || *wrong != (api.PlaceError{At: x.at, Err: x.err}) {
			t.Errorf("P15.1: %.80q: %v, wanted %v at %d", x.text, wrong, x.err, x.at)
		}
	}
}

func TestWrongPrograms(t *testing.T) {
	for _, x := range []wrongText{
		{"x", 0, api.ErrParse}, {"1", 0, api.ErrParse}, {";;", 0, api.ErrParse}, {"ref", 3, api.ErrParse}, {"ref 1", 4, api.ErrParse}, {"ref ref", 4, api.ErrParse}, {"ref rec x", 4, api.ErrParse}, {"ref x = 1", 6, api.ErrParse}, {"ref x : = 1", 6, api.ErrParse}, {"ref x := y;;", 9, api.ErrParse}, {"ref x := --1;;", 10, api.ErrParse}, {"ref x := +1;;", 9, api.ErrParse}, {"ref x := (1);;", 9, api.ErrParse}, {"ref x := 1", 10, api.ErrParse}, {"ref x := 1;", 10, api.ErrParse}, {"ref x := 1 + 1;;", 11, api.ErrParse}, {"ref x := true;;", 9, api.ErrParse}, {"ref x := 1;; ;;", 13, api.ErrParse},
		{"let", 3, api.ErrParse}, {"let 1", 4, api.ErrParse}, {"let rec rec", 8, api.ErrParse}, {"let f = 1", 6, api.ErrParse}, {"let f ()", 7, api.ErrParse}, {"let f (x)", 8, api.ErrParse}, {"let f (x : )", 11, api.ErrParse}, {"let f (x : int : int)", 15, api.ErrParse}, {"let f (x : nat)", 11, api.ErrParse}, {"let f (x : Pure)", 11, api.ErrParse}, {"let f x : int", 6, api.ErrParse}, {"let f (x : int, y : int)", 14, api.ErrParse},
		{"let f : int", 8, api.ErrParse}, {"let f (**) : (* *) {v : int | v} is 1;;", 19, api.ErrParse}, {"let f : pure int", 8, api.ErrParse}, {"let f : Pure", 12, api.ErrParse}, {"let f : Pure x", 13, api.ErrParse}, {"let f : Pure Pure", 13, api.ErrParse}, {"let f : Pure (int)", 13, api.ErrParse}, {"let f : Pure {v : bool | v} is 1;;", 18, api.ErrParse}, {"let f : Pure {1 : int | v} is 1;;", 14, api.ErrParse}, {"let f : Pure {v : int} is 1;;", 21, api.ErrParse}, {"let f : Pure {v : int || v} is 1;;", 22, api.ErrParse}, {"let f : Pure {v : int | } is 1;;", 24, api.ErrParse}, {"let f : Pure {v : int | v is 1;;", 26, api.ErrParse}, {"let f : Pure {v : {w : int | w} | v} is 1;;", 18, api.ErrParse},
		{"let f : Pure int ensures r, 1 is 1;;", 26, api.ErrParse}, {"let f : Pure int ensures r is 1;;", 27, api.ErrParse}, {"let f : Pure int ensures 1. 1 is 1;;", 25, api.ErrParse}, {"let f : Pure int requires is 1;;", 26, api.ErrParse}, {"let f : Pure int requires 1 requires 1 is 1;;", 28, api.ErrParse}, {"let f : Pure int ensures r. 1 requires 1 is 1;;", 30, api.ErrParse}, {"let f : Pure int decreases 1 ensures r. 1 is 1;;", 29, api.ErrParse}, {"let f : Pure int decreases is 1;;", 27, api.ErrParse}, {"let f : Pure int decreases 1, is 1;;", 30, api.ErrParse}, {"let f : Pure int decreases (1, 2) is 1;;", 29, api.ErrParse}, {"let f : Pure int requires 1, 2 is 1;;", 27, api.ErrParse},
		{"let f : Pure int = 1;;", 17, api.ErrParse}, {"let f : Pure int is ;;", 20, api.ErrParse}, {"let f : Pure int is 1", 21, api.ErrParse}, {"let f : Pure int is 1;", 22, api.ErrParse}, {"let f : Pure int is 1;; 1", 24, api.ErrParse}, {"let f : Pure int is 1 let g : Pure int is 1;;", 22, api.ErrParse}, {"let f : Pure int is let g = 1 in ref x := 1;;", 33, api.ErrParse},
		{"let f : Pure int is ?;;", 20, api.ErrLex}, {"x ?", 2, api.ErrLex}, {"ref x := 00;;", 9, api.ErrLex},
	} {
		if _, wrong := askProgram(t, x.text); wrong == nil || *wrong != (api.PlaceError{At: x.at, Err: x.err}) {
			t.Errorf("P15.1: %.80q: %v, wanted %v at %d", x.text, wrong, x.err, x.at)
		}
	}
}

// TestWordsAreNoNames asks for each word where a name must be.
func TestWordsAreNoNames(t *testing.T) {
	for _, w := range strings.Fields("let rec ref is in if then else try with raise assert old requires ensures decreases int bool unit true false not Pure State Exn All Div") {
		for _, ahead := range []string{"ref ", "let rec ", "let f (", "let f (x : {", "let f : Pure {", "let f : Pure int ensures ", "let f : Pure int is let ", "let f : Pure int is try 1 with ", "let f : Pure int is !", "let f : Pure int is old "} {
			if _, wrong := askProgram(t, ahead+w); wrong == nil || *wrong != (api.PlaceError{At: len(ahead), Err: api.ErrParse}) {
				t.Errorf("P15.1: %s: %v", ahead+w, wrong)
			}
		}
	}
}

func TestManyDecls(t *testing.T) {
	var cells, all strings.Builder
	for i := range api.MaxDecls {
		cells.WriteString("ref x" + strconv.Itoa(i) + " := 1;; ")
		all.WriteString([]string{"ref x := 1;;\n", "let f : Pure int is 1;;\n"}[i%2])
	}
	for _, text := range []string{cells.String(), all.String()} {
		if l, wrong := askProgram(t, text); wrong != nil || len(l) != api.MaxDecls {
			t.Errorf("P15.1: %d declarations: %d, %v", api.MaxDecls, len(l), wrong)
		}
		for _, x := range []struct {
			more string
			err  api.Errno
		}{
			{"ref y := 1;;", api.ErrMany}, {"let f : Pure int is 1;;", api.ErrMany}, {"ref", api.ErrMany}, {"let 1", api.ErrMany}, {"ref y := 1;; ref z := 1;;", api.ErrMany}, {"let f : Pure int is " + strings.Repeat("(", 300), api.ErrMany},
			{"x", api.ErrParse}, {";;", api.ErrParse}, {"rec", api.ErrParse}, {"1", api.ErrParse},
		} {
			if _, wrong := askProgram(t, text+x.more); wrong == nil || *wrong != (api.PlaceError{At: len(text), Err: x.err}) {
				t.Errorf("P15.1: %.40q behind %d declarations: %v", x.more, api.MaxDecls, wrong)
			}
		}
		if _, wrong := askProgram(t, "x"+text+"ref y := 1;;"); wrong == nil || *wrong != (api.PlaceError{At: 0, Err: api.ErrParse}) {
			t.Errorf("P15.1: %v", wrong)
		}
	}
}

func TestManyParams(t *testing.T) {
	const end = " : Pure int is 1;;"
	text := "let f" + strings.Repeat(" (x : int)", api.MaxArgs)
	l, wrong := askProgram(t, text+end)
	if wrong != nil || len(l) != 1 || len(l[0].Params) != api.MaxArgs || l[0].Params[7].At != len("let f")+7*len(" (x : int)")+len(" (") {
		t.Errorf("P15.1: %+v, %v", l, wrong)
	}
	for _, more := range []string{"(x : int)" + end, "(", "()", "(1", "(x : int)(y : int)" + end} {
		if _, wrong := askProgram(t, text+" "+more); wrong == nil || *wrong != (api.PlaceError{At: len(text) + 1, Err: api.ErrMany}) {
			t.Errorf("P15.1: %q: %v", more, wrong)
		}
	}
	if _, wrong := askProgram(t, text+" x"); wrong == nil || *wrong != (api.PlaceError{At: len(text) + 1, Err: api.ErrParse}) {
		t.Errorf("P15.1: %v", wrong)
	}
}

func TestManyArguments(t *testing.T) {
	text := "f(0" + strings.Repeat(", 1", api.MaxArgs-1)
	if e, wrong := askExpr(t, text+")"); wrong != nil || len(e.L) != api.MaxArgs {
		t.Errorf("P15.1: %+v, %v", e, wrong)
	}
	nested := "f(" + strings.Repeat(text+"), ", api.MaxArgs-1) + text + "))"
	if e, wrong := askExpr(t, nested); wrong != nil || len(e.L) != api.MaxArgs || len(e.L[7].L) != api.MaxArgs {
		t.Errorf("P15.1: %+v, %v", e, wrong)
	}
	for _, more := range []string{", 1)", ",)", ",", ", 1, 1)", ", " + strings.Repeat("(", 300)} {
		if _, wrong := askExpr(t, text+more); wrong == nil || *wrong != (api.PlaceError{At: len(text), Err: api.ErrMany}) {
			t.Errorf("P15.1: %.40q: %v", more, wrong)
		}
	}
	if _, wrong := askExpr(t, text+" 1)"); wrong == nil || *wrong != (api.PlaceError{At: len(text) + 1, Err: api.ErrParse}) {
		t.Errorf("P15.1: %v", wrong)
	}
	const count = 5000 // a measure has no limit here
	l, wrong := askProgram(t, "let f : Pure int decreases 1"+strings.Repeat(", 1", count-1)+" is 1;;")
	if wrong != nil || len(l) != 1 || len(l[0].Measure) != count {
		t.Errorf("P15.1: %v", wrong)
	}
}
