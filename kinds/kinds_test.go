package kinds_test

import (
	"strings"
	"testing"

	"avow/api"
	"avow/kinds"
)

// ahead: what the texts below may use.
const ahead = "ref c := 1;; let p (a : int) (b : bool) : Pure int is a;; let u (a : unit) : Pure unit is a;; let q : Pure bool is true;; let s : State int is !c;; let x : Exn int is raise 1;; let a : All int is 1;; let d : Div int is 1;; "

// holdTexts holds Check's answers against those that are told: of texts with @ where the fault is, if there is one.
func holdTexts(t *testing.T, promise string, texts map[string]api.Errno) {
	t.Helper()
	for text, err := range texts {
		plain, at := marked(ahead + text)
		wrong := check(t, resolved(t, plain))
		switch {
		case err == api.OK && wrong != nil:
			t.Errorf("%s: %s: %v", promise, text, wrong)
		case err != api.OK && (wrong == nil || *wrong != api.PlaceError{At: at, Err: err}):
			t.Errorf("%s: %s: %v, wanted %v at %d", promise, text, wrong, err, at)
		}
	}
}

// inBody makes texts of expressions that are bodies of definitions of a kind, with a parameter n, a parameter b that is a bool, and a parameter o that is a unit.
func inBody(kind string, exprs map[string]api.Errno) map[string]api.Errno {
	out := map[string]api.Errno{}
	for e, err := range exprs {
		out["let f (n : int) (b : bool) (o : unit) : All "+kind+" is "+e+";;"] = err
	}
	return out
}

func TestIntsKinds(t *testing.T) {
	holdTexts(t, "P18.1", inBody("int", map[string]api.Errno{
		"7": 0, "n": 0, "-n": 0, "n + 1": 0, "n - n - 1": 0, "!c": 0, "-!c + n": 0, "n * 2": 0, "2 * n": 0,
		"@true": api.ErrKind, "@()": api.ErrKind, "@b": api.ErrKind, "@o": api.ErrKind, "n @= 1": api.ErrKind,
		"-@b": api.ErrKind, "-(-@o)": api.ErrKind, "@b + 1": api.ErrKind, "1 + @b": api.ErrKind, "@o - n": api.ErrKind, "n - @true": api.ErrKind, "@() + true": api.ErrKind,
		"1 + (n @< 1)": api.ErrKind, "(1 + @true) + ()": api.ErrKind, "@() + (1 + true)": api.ErrKind,
	}))
	holdTexts(t, "P18.1", inBody("int", map[string]api.Errno{
		"n @* n": api.ErrLinear, "n * 0": 0, "n * -3": 0, "-3 * n": 0, "2 * 3": 0, "-2 * -3": 0, "n * (-3)": 0, "n @* -(-3)": api.ErrLinear, "n @* (1 + 1)": api.ErrLinear, "(1 + 1) @* n": api.ErrLinear, "-n @* n": api.ErrLinear, "n @* -n": api.ErrLinear, "2 * (n @* !c)": api.ErrLinear, "n * 2 * 3": 0, "2 * n @* n": api.ErrLinear, "!c @* p(1, b)": api.ErrLinear,
		"(let k = 2 in k @* n)": api.ErrLinear, "@b * 2": api.ErrKind, "2 * @b": api.ErrKind, "n * @b": api.ErrKind, "@b * n": api.ErrKind, "(n @* n) * b": api.ErrLinear, "@b * (n * n)": api.ErrKind, "n * (n @* n)": api.ErrLinear, "-@true * n": api.ErrKind, "n @* (if b then 1 else 2)": api.ErrLinear, "n @* (b; 2)": api.ErrLinear,
	}))
}

func TestBoolsKinds(t *testing.T) {
	holdTexts(t, "P18.1", inBody("bool", map[string]api.Errno{
		"true": 0, "false": 0, "b": 0, "not b": 0, "b && true": 0, "b || false": 0, "b ==> b ==> b": 0, "n < 1": 0, "1 <= n": 0, "n > !c": 0, "n >= -1": 0,
		"@n": api.ErrKind, "@o": api.ErrKind, "not @n": api.ErrKind, "not @()": api.ErrKind, "@n && b": api.ErrKind, "b && @n": api.ErrKind, "@n || b": api.ErrKind, "b || @o": api.ErrKind, "@1 ==> b": api.ErrKind, "b ==> @1": api.ErrKind, "b ==> @1 ==> 2": api.ErrKind, "@1 && ()": api.ErrKind,
		"@b < 1": api.ErrKind, "1 < @b": api.ErrKind, "@b <= b": api.ErrKind, "n <= @o": api.ErrKind, "@o > o": api.ErrKind, "1 > @o": api.ErrKind, "@true >= 1": api.ErrKind, "n >= @false": api.ErrKind, "(1 + @b) < ()": api.ErrKind,
		"n @+ 1": api.ErrKind, "true || -@b > 1": api.ErrKind,
	}))
	holdTexts(t, "P18.1", inBody("bool", map[string]api.Errno{
		"n = 1": 0, "b = true": 0, "(n = 1) = (n < 2)": 0, "n <> 1": 0, "b <> b": 0, "not b = b": 0,
		"n = @b": api.ErrKind, "b = @n": api.ErrKind, "n = @o": api.ErrKind, "b = @o": api.ErrKind, "@o = n": api.ErrKind, "@o = b": api.ErrKind, "@o = o": api.ErrKind, "@() = ()": api.ErrKind, "@o = (1 + true)": api.ErrKind, "(1 + @b) = o": api.ErrKind, "n = (1 + @b)": api.ErrKind, "n = (b = @1)": api.ErrKind,
		"n <> @b": api.ErrKind, "b <> @n": api.ErrKind, "n <> @o": api.ErrKind, "b <> @o": api.ErrKind, "@o <> n": api.ErrKind, "@o <> b": api.ErrKind, "@o <> o": api.ErrKind, "@() <> (1 + true)": api.ErrKind,
	}))
}

func TestUnitsKinds(t *testing.T) {
	holdTexts(t, "P18.1", inBody("unit", map[string]api.Errno{
		"()": 0, "o": 0, "c := 1": 0, "c := n + !c": 0, "assert b": 0, "assert n = 1": 0, "u(())": 0, "u(c := 1)": 0,
		"@1": api.ErrKind, "@b": api.ErrKind, "c := @b": api.ErrKind, "c := @o": api.ErrKind, "c := 1 + @o": api.ErrKind, "assert @n": api.ErrKind, "assert @o": api.ErrKind, "assert not @n": api.ErrKind, "@raise n": api.ErrKind, "@!c": api.ErrKind,
	}))
	holdTexts(t, "P18.1", inBody("int", map[string]api.Errno{
		"raise 1": 0, "raise n + !c": 0, "raise (raise 1)": 0, "raise @b": api.ErrKind, "raise @()": api.ErrKind, "raise (raise @b)": api.ErrKind, "1 + (raise n)": 0, "@c := 1": api.ErrKind, "@assert b": api.ErrKind,
	}))
	holdTexts(t, "P18.1", inBody("bool", map[string]api.Errno{"@raise 1": api.ErrKind, "b && (@raise 1)": api.ErrKind}))
}

func TestCallsKinds(t *testing.T) {
	holdTexts(t, "P18.1", inBody("int", map[string]api.Errno{
		"p(1, b)": 0, "p(p(1, b), p(1, b) = 2)": 0, "s() + x() + a()": 0,
		"@p()": api.ErrArgs, "@p(1)": api.ErrArgs, "@p(1, b, 1)": api.ErrArgs, "@s(1)": api.ErrArgs, "@p(1 + true)": api.ErrArgs, "p(1, n @* n = 1)": api.ErrLinear,
		"p(@b, b)": api.ErrKind, "p(1, @n)": api.ErrKind, "p(@b, n)": api.ErrKind, "p(@o, p())": api.ErrKind, "p(1, @p())": api.ErrArgs, "@q()": api.ErrKind, "@u(())": api.ErrKind, "1 + @q()": api.ErrKind, "@u(1, 2)": api.ErrArgs, "@q() + q(1)": api.ErrKind, "1 + @q(1)": api.ErrArgs,
	}))
	holdTexts(t, "P18.1", map[string]api.Errno{
		"let rec f (n : int) (b : bool) : Pure int decreases n is f(1, true);;": 0, "let rec f (n : int) (b : bool) : Pure int decreases n is @f(1);;": api.ErrArgs, "let rec f (n : int) (b : bool) : Pure int decreases n is f(n, @n);;": api.ErrKind, "let rec f (n : int) : Pure bool decreases n is f(n) && true;;": 0, "let rec f (n : int) : Pure bool decreases n is f(@f(n));;": api.ErrKind,
		"let f (n : {v : int | v > 0}) : Pure {v : int | v > 0} is 1;; let g : Pure int is f(1);;": 0, "let f (n : {v : int | v > 0}) : Pure int is 1;; let g : Pure int is f(@true);;": api.ErrKind,
	})
	const eight = "let f (a:int) (b:bool) (c:unit) (d:int) (e:bool) (f:unit) (g:int) (h:bool) : Pure int is 1;; let g : Pure int is "
	holdTexts(t, "P18.1", map[string]api.Errno{
		eight + "f(1, true, (), 1, true, (), 1, true);;": 0, eight + "@f(1, true, (), 1, true, (), 1);;": api.ErrArgs, eight + "f(1, true, (), 1, true, (), 1, @1);;": api.ErrKind, eight + "f(1, true, (), 1, true, @1, true, 1);;": api.ErrKind,
	})
}

func TestKindsWithin(t *testing.T) {
	for _, kind := range []string{"int", "bool", "unit"} {
		of := map[string]string{"int": "n", "bool": "b", "unit": "o"}
		own := of[kind]
		for other, name := range of {
			if other == kind {
				continue
			}
			holdTexts(t, "P18.1", inBody(kind, map[string]api.Errno{
				"if b then " + own + " else " + own: 0, "if b then " + own + " else @" + name: api.ErrKind, "@if b then " + name + " else " + name: api.ErrKind, "if @n then " + name + " else 1": api.ErrKind, "if @o then 1 else true": api.ErrKind, "if b then (1 + @true) else " + own: api.ErrKind, "if b then " + own + " else (1 + @b)": api.ErrKind, "if not @1 then (1 + true) else ()": api.ErrKind,
				"let y = " + own + " in y": 0, "let y = " + name + " in " + own: 0, "@let y = " + name + " in y": api.ErrKind, "let y = " + name + " in let z = " + own + " in (let y = y in z)": 0, "@let y = " + own + " in " + name: api.ErrKind, "let y = 1 + @b in 1 + true": api.ErrKind, "let y = 1 in 1 + @b": api.ErrKind, "let y = " + name + " in let y = " + own + " in y": 0,
				name + "; " + own: 0, own + "@; " + name: api.ErrKind, "n; b; o; " + own: 0, "(1 + @b); " + own: api.ErrKind, own + "; n; (1 + @b)": api.ErrKind,
				"try " + own + " with e -> " + own: 0, "try " + own + " with e -> @" + name: api.ErrKind, "@try " + name + " with e -> " + name: api.ErrKind, "try " + own + " with e -> (raise e; " + own + ")": 0, "try 1 + @b with e -> ()": api.ErrKind, "try " + own + " with e -> (not @e; " + own + ")": api.ErrKind,
			}))
		}
	}
	holdTexts(t, "P18.1", inBody("int", map[string]api.Errno{
		"try n with e -> e": 0, "try raise 1 with b -> b + 1": 0, "try (let b = 1 in b) with e -> (if b then n else e)": 0, "try b with e -> @e": api.ErrKind, "(let b = 1 in b) + @b": api.ErrKind, "(try 1 with b -> b) + @b": api.ErrKind, "(let n = b in 1) + n": 0,
	}))
}

// TestKind asks for kinds with binders and definitions that no text would bring.
func TestKind(t *testing.T) {
	l := resolved(t, "ref c := 1;; let f (x : int) : Pure bool is true;; ref d := 1;; let rec g : State unit decreases 1 is ();; let h : Div int is 1;;")
	variable := func(i int) api.Expr { return api.Expr{Op: api.EVar, I: i, At: 3} }
	call := func(i int, args ...api.Expr) api.Expr { return api.Expr{Op: api.ECall, I: i, L: args, At: 7} }
	num := api.Expr{Op: api.ENum, N: "1", At: 5}
	let := func(of, in api.Expr) api.Expr { return api.Expr{Op: api.ELet, L: []api.Expr{of, in}, At: 9} }
	const least, greatest = -1 << 63, 1<<63 - 1
	for _, x := range []struct {
		at      int
		e       api.Expr
		binders []int
		kind    int
		err     api.PlaceError
	}{
		{at: 0, e: num, kind: api.TyInt}, {at: -1, e: num, kind: api.TyInt}, {at: 99, e: num, kind: api.TyInt},
		// binders, the innermost last
		{e: variable(0), binders: []int{api.TyInt, api.TyBool}, kind: api.TyBool}, {e: variable(1), binders: []int{api.TyInt, api.TyBool}, kind: api.TyInt}, {e: variable(2), binders: []int{api.TyUnit, api.TyInt, api.TyBool}, kind: api.TyUnit},
		{e: let(num, variable(0)), binders: []int{api.TyBool}, kind: api.TyInt}, {e: let(num, variable(1)), binders: []int{api.TyUnit, api.TyBool}, kind: api.TyBool}, {e: let(variable(0), variable(0)), binders: []int{api.TyUnit}, kind: api.TyUnit}, {e: let(variable(1), let(num, variable(1))), binders: []int{api.TyUnit, api.TyInt}, kind: api.TyUnit},
		{e: variable(2), binders: []int{1, 1}, err: api.PlaceError{At: 3, Err: api.ErrName}}, {e: variable(0), err: api.PlaceError{At: 3, Err: api.ErrName}}, {e: variable(-1), binders: []int{1, 1}, err: api.PlaceError{At: 3, Err: api.ErrName}}, {e: variable(least), binders: []int{1}, err: api.PlaceError{At: 3, Err: api.ErrName}}, {e: variable(greatest), binders: []int{1}, err: api.PlaceError{At: 3, Err: api.ErrName}}, {e: let(variable(0), num), err: api.PlaceError{At: 3, Err: api.ErrName}},
		// what may be called: what is ahead, and itself, if Rec
		{at: 0, e: call(0, num), err: api.PlaceError{At: 7, Err: api.ErrName}}, {at: 1, e: call(0, num), kind: api.TyBool}, {at: 1, e: call(1), kind: api.TyUnit}, {at: 1, e: call(2), err: api.PlaceError{At: 7, Err: api.ErrName}}, {at: 2, e: call(1), kind: api.TyUnit}, {at: 2, e: call(2), err: api.PlaceError{At: 7, Err: api.ErrName}}, {at: 2, e: call(0, num), kind: api.TyBool},
		{at: 3, e: call(2), kind: api.TyInt}, {at: greatest, e: call(2), kind: api.TyInt}, {at: greatest, e: call(3), err: api.PlaceError{At: 7, Err: api.ErrName}}, {at: -1, e: call(0, num), err: api.PlaceError{At: 7, Err: api.ErrName}}, {at: least, e: call(0, num), err: api.PlaceError{At: 7, Err: api.ErrName}}, {at: 2, e: call(-1), err: api.PlaceError{At: 7, Err: api.ErrName}}, {at: 2, e: call(least), err: api.PlaceError{At: 7, Err: api.ErrName}}, {at: 2, e: call(greatest), err: api.PlaceError{At: 7, Err: api.ErrName}},
		{at: 2, e: call(0), err: api.PlaceError{At: 7, Err: api.ErrArgs}}, {at: 2, e: call(0, call(1)), err: api.PlaceError{At: 7, Err: api.ErrKind}}, {at: 0, e: call(0, call(1)), err: api.PlaceError{At: 7, Err: api.ErrName}},
		// cells have no kinds of their own
		{e: api.Expr{Op: api.ERead, I: 1}, kind: api.TyInt}, {e: api.Expr{Op: api.EOld, I: 1}, kind: api.TyInt}, {e: api.Expr{Op: api.EWrite, I: 1, L: []api.Expr{num}}, kind: api.TyUnit},
	} {
		kind, wrong := kindOf(t, l, x.at, x.e, x.binders)
		if kind != x.kind || wrong != nil && *wrong != x.err || (wrong == nil) != (x.err.Err == api.OK) {
			t.Errorf("P18.1: %d, %+v, %d: %d, %v, wanted %d, %v", x.at, x.e, x.binders, kind, wrong, x.kind, x.err)
		}
	}
}

// TestOperands asks for operators with more and with fewer operands than they have, and for operators that there aren't.
func TestOperands(t *testing.T) {
	kindOfOperands := map[int]string{api.ENum: "", api.EBool: "", api.EUnit: "", api.EVar: "", api.ERead: "", api.EOld: "", api.ENeg: "i", api.ENot: "b", api.EMul: "ii", api.EAdd: "ii", api.ESub: "ii", api.EEq: "ii", api.ENe: "bb", api.ELt: "ii", api.ELe: "ii", api.EGt: "ii", api.EGe: "ii", api.EAnd: "bb", api.EOr: "bb", api.EImp: "bb", api.EIf: "bii", api.ELet: "ii", api.ESeq: "ii", api.EWrite: "i", api.ERaise: "i", api.ETry: "ii", api.EAssert: "b"}
	for op := -2; op < api.EAssert+9; op++ {
		if op == api.ECall {
			continue
		}
		operands, known := kindOfOperands[op]
		for n := range 5 {
			e := api.Expr{Op: op, At: 4}
			for i := range n {
				if i < len(operands) && operands[i] == 'b' {
					e.L = append(e.L, api.Expr{Op: api.EBool})
				} else {
					e.L = append(e.L, api.Expr{Op: api.ENum})
				}
			}
			kind, wrong := kindOf(t, nil, 0, e, []int{api.TyInt})
			if known && n == len(operands) {
				if kind == 0 || wrong != nil {
					t.Errorf("P18.1: %d with %d operands: %v", op, n, wrong)
				}
			} else if wrong == nil || *wrong != (api.PlaceError{At: 4, Err: api.ErrKind}) {
				t.Errorf("P18.1: %d with %d operands: %d, %v", op, n, kind, wrong)
			}
		}
	}
}

func TestMeasure(t *testing.T) {
	holdTexts(t, "P18.3", map[string]api.Errno{
		"let rec @f : Pure int is 1;;": api.ErrMeasure, "let rec @f : State int is 1;;": api.ErrMeasure, "let rec @f : Exn int is 1;;": api.ErrMeasure, "let rec @f : All int is 1;;": api.ErrMeasure, "let rec f : Div int is f();;": 0, "let f : Div int is 1;;": 0,
		"let rec @f : Div int decreases 1 is f();;": api.ErrMeasure, "let @f : Pure int decreases 1 is 1;;": api.ErrMeasure, "let @f : Div int decreases 1 is 1;;": api.ErrMeasure, "let @f : All int decreases 1, 2, 3, 4, 5 is 1;;": api.ErrMeasure,
		"let rec f : Pure int decreases 1 is 1;;": 0, "let rec f : Pure int decreases 1, 2, 3, 4 is 1;;": 0, "let rec @f : Pure int decreases 1, 2, 3, 4, 5 is 1;;": api.ErrMeasure, "let rec @f : Pure int decreases true, 2, 3, 4, 5 is 1;;": api.ErrMeasure,
		"let rec f (n : int) : All int decreases n, -n + !c, p(n, true) is f(n) + f(1);;": 0, "let rec f : All int decreases 1, @true is 1;;": api.ErrKind, "let rec f : All int decreases @(), true is 1;;": api.ErrKind, "let rec f (b : bool) : All int decreases @b is 1;;": api.ErrKind, "let rec f (n : int) : All int decreases n @* n is 1;;": api.ErrLinear,
		"let rec f : Pure int decreases 1, @!c is 1;;": api.ErrPure, "let rec f : State int decreases !c is 1;;": 0, "let rec f : Exn int decreases -@!c is 1;;": api.ErrPure, "let rec f : All int decreases 1, !c is 1;;": 0, "let rec f : Pure int decreases 1, @f() is 1;;": api.ErrPure, "let rec f : All int decreases !c + @true is 1;;": api.ErrKind, "let rec f : Pure int decreases @!c, true is 1;;": api.ErrPure, "let rec f : Pure int decreases @raise 1 is 1;;": api.ErrPure,
	})
}

func TestFormulasKinds(t *testing.T) {
	holdTexts(t, "P18.3", map[string]api.Errno{
		"let f (n : int) (b : bool) : Pure int requires b && n > 0 is 1;;": 0, "let f (n : int) (b : bool) : Pure int requires @n is 1;;": api.ErrKind, "let f (n : int) (b : bool) : Pure int requires n @+ 1 is 1;;": api.ErrKind, "let f (n : int) (b : bool) : Pure int requires n = @b is 1;;": api.ErrKind, "let f : Pure int requires @() is 1;;": api.ErrKind, "let f (n : int) : Pure int requires n @* n = 1 is 1;;": api.ErrLinear, "let f : Pure int requires @p(1) = 1 is 1;;": api.ErrArgs,
		// binders: parameters', then the refinement's TyInt, or Result's: the type's kind
		"let f (b : bool) (n : {v : int | b && v > 0}) (m : {b : int | b > n}) : Pure int is m;;": 0, "let f (b : bool) (n : {v : int | @v && b}) : Pure int is 1;;": api.ErrKind, "let f (b : bool) (n : {v : int | v > @b}) : Pure int is 1;;": api.ErrKind, "let f (n : {v : int | @v}) : Pure int is 1;;": api.ErrKind, "let f (b : bool) (n : {b : int | b > 0}) : Pure int requires b is n;;": 0,
		"let f (b : bool) : Pure {v : int | b = (v > 1)} requires b is 1;;": 0, "let f (b : bool) : Pure {v : int | v > @b} requires b is 1;;": api.ErrKind, "let f (b : bool) : Pure {b : int | b > 0} requires b is 1;;": 0, "let f : Pure {v : int | @v} is 1;;": api.ErrKind,
		"let f : Pure bool ensures r. r is true;;": 0, "let f : Pure int ensures r. @r is 1;;": api.ErrKind, "let f : Pure int ensures r. r = 1 is 1;;": 0, "let f : Pure bool ensures r. r = @1 is true;;": api.ErrKind, "let f : Pure unit ensures r. @r = r is ();;": api.ErrKind, "let f : Pure unit ensures r. @r is ();;": api.ErrKind, "let f (n : int) (b : bool) : Pure unit ensures n. b is ();;": 0, "let f (b : int) : Pure bool ensures b. b is true;;": 0, "let f : Pure {v : int | v = 1} ensures r. r = 1 is 1;;": 0,
		"let rec f (b : bool) (n : {v : int | v > 0}) : Pure {w : int | w > 0} ensures r. r > 0 decreases n, if b then 1 else 2 is 1;;": 0, "let f (n : int) : Pure bool ensures r. n > 0 && r is n > 0;;": 0,
	})
}

func TestForms(t *testing.T) {
	texts := map[string]api.Errno{}
	for _, e := range []string{"true", "n = 1", "n + 2 * n - -1 >= n", "not b ==> b || b && n <> 3", "if b then b else not b", "(let k = n in k < n)", "p(n, b) > 1", "p(p(1, b), q()) > 1", "q()", "(let z = u(()) in b)", "(let z = () in b)"} {
		texts[e] = 0
	}
	for _, e := range []string{
		"(true@; b)", "(c := 1@; b)", "(raise 1@; b)", "((true; b)@; b)", "(@try b with e -> b)", "(@try b with e -> (b; b))", "(@raise 1) = 1", "(let z = (@c := 1) in b)", "(let z = (@assert b) in b)", "b && (let z = (@assert b) in (b; b))", "b && ((@raise 1) = 1 ==> b)",
		"@s() = 1", "@x() = 1", "@a() = 1", "@d() = 1", "p(@s(), b) = 1", "p(1, (b@; b)) = x()", "not (b@; b)", "(if @d() = 1 then (b; b) else b)", "(if b then (b@; b) else (b; b))", "-(@raise 1) = 1", "1 - 2 * (@raise 1) = 1", "b ==> b ==> (1@; b)", "(let y = 1 in (y@; b))", "(@raise (raise 1)) = 1", "@x() = (raise 1)", "(c := x()@; b)", "(@try x() = 1 with e -> b)", "p(@s(), (raise 1) = x()) = 1", "(let z = (@c := (raise 1)) in b)", "(let z = (@assert (b; b)) in b)", "(let z = @a() in (b; b))",
	} {
		texts[e] = api.ErrPure
	}
	for _, effect := range []string{"Pure", "State", "Exn", "All", "Div"} {
		wanted := map[string]api.Errno{}
		reads := api.ErrPure
		if effect == "State" || effect == "All" || effect == "Div" {
			reads = api.OK
		}
		for e, err := range texts {
			const params = "let f (n : int) (b : bool) "
			wanted[params+": "+effect+" int requires "+e+" is 1;;"] = err
			wanted[params+": "+effect+" int ensures r. "+e+" is 1;;"] = err
			wanted[params+": "+effect+" {v : int | "+e+"} is 1;;"] = err
			wanted[params+"(m : {v : int | "+e+"}) : "+effect+" int is 1;;"] = err
		}
		wanted["let f : "+effect+" int requires 1 = @!c is 1;;"] = reads
		wanted["let f : "+effect+" int ensures r. r = @!c is 1;;"] = reads
		wanted["let f : "+effect+" int ensures r. true && r = -@old c is 1;;"] = reads
		wanted["let f : "+effect+" int ensures r. @old c = !c is 1;;"] = reads
		wanted["let f : "+effect+" {v : int | v = @!c} is 1;;"] = api.ErrPure
		wanted["let f (n : {v : int | v = @!c}) : "+effect+" int is 1;;"] = api.ErrPure
		if effect != "Div" {
			wanted["let rec f : "+effect+" int decreases @!c is 1;;"] = reads
		}
		holdTexts(t, "P18.3", wanted)
	}
}

// TestFormulasCallThemselves: no formula calls its own definition, Pure or not.
func TestFormulasCallThemselves(t *testing.T) {
	holdTexts(t, "P18.3", map[string]api.Errno{
		"let rec f (n : int) : Pure int requires @f(n) > 1 decreases n is 1;;": api.ErrPure, "let rec f (n : int) : Pure int ensures r. r = @f(n) decreases n is 1;;": api.ErrPure, "let rec f (n : int) : Pure {v : int | v = @f(n)} decreases n is 1;;": api.ErrPure, "let rec f (n : {v : int | v = @f(v)}) : Pure int decreases n is 1;;": api.ErrPure, "let rec f (n : int) : Pure int decreases p(@f(n), true) is 1;;": api.ErrPure, "let rec f (n : int) : Div int requires @f(n) > 1 is 1;;": api.ErrPure, "let rec f (n : int) : Pure int requires f(@true) = 1 decreases n is 1;;": api.ErrKind, "let rec f (n : int) : Pure int requires @f() = 1 decreases n is 1;;": api.ErrArgs,
		"let rec f (n : int) : Pure int decreases n is 1;; let rec g (n : int) : Pure int requires f(n) > 1 decreases f(n) is g(f(n));;": 0, "let rec f (n : int) : Pure int decreases n is 1;; let rec g (n : int) : Pure int requires @g(n) > f(n) decreases f(n) is 1;;": api.ErrPure,
	})
}

func TestBody(t *testing.T) {
	holdTexts(t, "P18.3", map[string]api.Errno{
		"let f : Pure int is 1;;": 0, "let f : Pure int is @true;;": api.ErrKind, "let f : Pure unit is @true;;": api.ErrKind, "let f : Pure {v : int | v > 0} is @true;;": api.ErrKind, "let f : Pure bool is true;;": 0, "let f : Pure bool is 1 @+ !c;;": api.ErrKind, "let f (n : int) (b : bool) : Pure bool is b = (n = 1);;": 0, "let f (n : int) (b : bool) : Pure int is @b;;": api.ErrKind, "let f (n : int) (b : bool) : Pure bool is @n;;": api.ErrKind, "let f : Pure int ensures r. r = 1 is 1;;": 0,
	})
	const pure, state, exn, all, div = 1, 2, 4, 8, 16
	for e, allowed := range map[string]int{
		"@1": pure | state | exn | all | div, "@!c": state | all | div, "(c := 1@; 2)": state | all | div, "@s()": state | all | div, "1 @+ !c": state | all | div, "@raise 1": exn | all | div, "@x()": exn | all | div, "@a()": all | div, "@d()": div, "(@let y = s() in 1)": state | all | div, "@p(s(), true)": state | all | div, "@p(1, true)": pure | state | exn | all | div,
		"s() @+ x()": all | div, "@raise !c": all | div, "x() @+ d()": div, "@if true then 1 else x()": exn | all | div, "(true@; 1)": pure | state | exn | all | div, "(assert false@; 1)": pure | state | exn | all | div,
		"@try x() with e -> e": pure | state | exn | all | div, "@try raise !c with e -> e": state | all | div, "@try x() with e -> raise e": exn | all | div, "@try 1 with e -> x()": exn | all | div, "@try d() with e -> e": div, "@try a() with e -> 1": state | all | div, "(try x() with e -> e) @+ x()": exn | all | div, "(try x() with e -> e) @+ (try x() with e -> e)": pure | state | exn | all | div, "@try (try x() with e -> raise e) with e -> e": pure | state | exn | all | div, "@try 1 with e -> (try x() with e -> e)": pure | state | exn | all | div,
	} {
		texts := map[string]api.Errno{}
		for i, effect := range []string{"Pure", "State", "Exn", "All", "Div"} {
			texts["let f : "+effect+" int is "+e+";;"] = api.ErrEffect
			if allowed>>i&1 == 1 {
				texts["let f : "+effect+" int is "+e+";;"] = api.OK
			}
		}
		holdTexts(t, "P18.3", texts)
	}
	holdTexts(t, "P18.3", map[string]api.Errno{
		"let rec f : Pure int decreases 1 is f();;": 0, "let rec f : State int decreases 1 is f();;": 0, "let rec f : Div int is f();;": 0, "let f : State int is 1;; let g : Pure int is @f();;": api.ErrEffect, "let f : Div int is 1;; let g : All int is @f();;": api.ErrEffect, "let f : Pure int requires true is @!c;;": api.ErrEffect,
	})
}

// TestFirstFault makes each choice of parts that have a fault: the first of them is told, in the chapter's order, which isn't the text's.
func TestFirstFault(t *testing.T) {
	const text = "let REC0 f1 (a : {v : int | F2}) (b : {v : int | F3}) : Pure {v : int | F5} requires F4 ensures r. F6 decreases M7, M8 is B9;; let rec f10 : Pure int is F11;;"
	for _, fault := range []string{"@1", "(@!c = 1)", "(true@; true)", "(@() = ())"} {
		for faults := range 1 << 7 {
			right := map[string]string{"F2": "v > 0", "F3": "v > a", "F4": "a = b", "F5": "a = v", "F6": "r = a", "M7": "a", "M8": "b"}
			wrong := map[string]string{"F2": fault, "F3": fault, "F4": fault, "F5": fault, "F6": fault, "M7": "@true", "M8": "@!c"}
			first := ""
			var pairs []string
			for i, part := range []string{"F2", "F3", "F4", "F5", "F6", "M7", "M8"} {
				with := right[part]
				if faults>>i&1 == 1 {
					with = strings.ReplaceAll(wrong[part], "@", "")
					if first == "" {
						first, with = part, wrong[part]
					}
				}
				pairs = append(pairs, part, with)
			}
			if first == "" {
				continue
			}
			pairs = append(pairs, "B9", "true", "F11", "true")
			wanted := map[string]api.Errno{"@1": api.ErrKind, "@true": api.ErrKind, "(@() = ())": api.ErrKind, "(@!c = 1)": api.ErrPure, "@!c": api.ErrPure, "(true@; true)": api.ErrPure}[wrong[first]]
			marked := strings.NewReplacer(pairs...).Replace(text)
			holdTexts(t, "P18.3", map[string]api.Errno{
				strings.Replace(marked, "REC0", "rec", 1):                                                              wanted,
				strings.Replace(strings.Replace(strings.ReplaceAll(marked, "@", ""), "REC0", "", 1), "f1 ", "@f1 ", 1): api.ErrMeasure,
			})
		}
	}
	holdTexts(t, "P18.3", map[string]api.Errno{
		"let f : Pure int is @true;; let rec g : Pure int is 1;;": api.ErrKind, "let f : Pure int is true @&& !c = 1;;": api.ErrKind, "let f : Pure int is @!c;; let g : Pure int is true;;": api.ErrEffect, "let rec @g : Pure int is true;; let f : Pure int is true;;": api.ErrMeasure, "ref k := 1;; let f : Pure int is 1;; ref m := 2;; let g : State int is !m + !k;; let h : Pure int is @g();;": api.ErrEffect,
	})
}

func TestNothing(t *testing.T) {
	for _, l := range [][]api.Decl{nil, {}, resolved(t, "ref c := 1;; ref d := 2;;"), resolved(t, ahead)} {
		if err := kinds.Check(l); err != nil {
			t.Errorf("P18.3: %v", err)
		}
	}
	if wrong := check(t, resolved(t, "ref c := 1;; let f (x : int) : Pure int is !c;;")); wrong == nil || wrong.Err != api.ErrEffect {
		t.Errorf("P18.3: the chapter's example: %v", wrong)
	}
}
