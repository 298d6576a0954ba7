package eval_test

import (
	"strings"
	"testing"

	"avow/api"
	"avow/eval"
)

// contracts: definitions whose formulas are asked; the numbers of the tests are those of this list.
const contracts = "ref c := 1;; ref d := 2;; " +
	"let rec down (n : int) : Pure int decreases n is if n <= 0 then 0 else down(n - 1);; " + // 0
	"let sure (b : bool) : Pure bool is assert b; b;; " + // 1
	"let calm (n : int) : Pure bool is (try raise n with e -> e) = n;; " + // 2
	"let plain (n : int) : Pure int is n;; " + // 3
	"let chain (a : {v : int | v > 0}) (b : bool) (z : {v : int | v > a && b}) : Pure int is 1;; " + // 4
	"let needs (a : int) (b : bool) (u : unit) : State int requires a > 1 ==> b && !c = a - !d is 1;; " + // 5
	"let gives (a : int) (b : bool) : State {r : int | r > a} ensures q. b ==> q = old c + !c * 10 is 1;; " + // 6
	"let truth (a : int) : State bool ensures q. q = (old c < !c) is true;; " + // 7
	"let nothing (a : int) : State unit ensures q. a = 1 is ();; " + // 8
	"let slow (a : {v : int | down(v) = 0}) (b : {v : int | down(v) = a - a}) : Pure {r : int | down(r) = 0} requires down(a) + down(b) = 0 ensures q. down(q) = down(a) is 1;; " + // 9
	"let risky (a : int) (b : {v : int | sure(v > 0)}) : Pure {r : int | sure(r > 0)} requires sure(a > 0) ensures q. calm(q) is 1;; " + // 10
	"let deep (a : {v : int | let x = v in let y = x in x + y = v + v}) (b : {v : int | let x = v + 1 in a + x = v + 5}) (z : {v : int | v = 6}) : Pure {r : int | let x = r in x + a = r + 4} requires (let x = 9 in let y = 8 in a + b + z + x + y = 32) ensures q. let x = 1 in let y = 2 in a + b + z + q = 25 is 1;; " + // 11
	"let unlike (a : int) : Pure {a : int | a = 3} requires a = 2 ensures a. a = 3 is 3;; " // 12

// asked: a question to Formula.
type asked struct {
	def, which int
	args       string // with blanks between
	result     string
	old, cells string
	fuel       int
}

func (a asked) answer(l []api.Decl) [2]bool {
	yes, told := eval.Formula(l, a.def, a.which, strings.Fields(a.args), a.result, strings.Fields(a.old), strings.Fields(a.cells), a.fuel)
	return [2]bool{yes, told}
}

var isTrue, isFalse, untold = [2]bool{true, true}, [2]bool{false, true}, [2]bool{}

// TestFormulas asks for preconditions and postconditions.
func TestFormulas(t *testing.T) {
	l := checked(t, contracts)
	for _, x := range []struct {
		asked
		want [2]bool
	}{
		{asked{def: 3}, isTrue}, {asked{def: 3, args: "5"}, isTrue}, {asked{def: 3, which: 1}, isTrue}, {asked{def: 3, which: 1, args: "5", result: "6"}, isTrue}, // nothing is said
		{asked{def: 4, args: "1 true 2"}, isTrue}, {asked{def: 4, args: "0 true 2"}, isFalse}, {asked{def: 4, args: "1 false 2"}, isFalse}, {asked{def: 4, args: "1 true 1"}, isFalse}, {asked{def: 4, args: "-1 true 1"}, isFalse}, {asked{def: 4, args: "01 true 2"}, isFalse}, {asked{def: 4, args: "1 yes 2"}, isFalse}, {asked{def: 4, args: "1 true"}, isFalse}, {asked{def: 4, args: "1"}, isFalse}, {asked{def: 4}, isFalse}, {asked{def: 4, args: "1 true 2 7"}, isTrue}, {asked{def: 4, which: 1, args: "0 true 0"}, isTrue},
		{asked{def: 5, args: "5 true ()", cells: "3 2"}, isTrue}, {asked{def: 5, args: "5 false ()", cells: "3 2"}, isFalse}, {asked{def: 5, args: "5 true ()", cells: "3 3"}, isFalse}, {asked{def: 5, args: "5 true ()", old: "3 2"}, isFalse}, {asked{def: 5, args: "1 false ()"}, isTrue}, {asked{def: 5, args: "5 true", cells: "5"}, isTrue}, {asked{def: 5, args: "5 true", cells: "05 5"}, isTrue}, {asked{def: 5, args: "5 true", cells: "5 x 7"}, isTrue}, {asked{def: 5, which: 1, args: "5 false"}, isTrue},
		{asked{def: 6, args: "9 true"}, isTrue}, {asked{def: 6, which: 1, args: "9 true", result: "43", old: "3 1", cells: "4 2"}, isTrue}, {asked{def: 6, which: 1, args: "43 true", result: "43", old: "3", cells: "4"}, isFalse}, {asked{def: 6, which: 1, args: "9 true", result: "34", old: "3", cells: "4"}, isFalse}, {asked{def: 6, which: 1, args: "9 false", result: "34", old: "3", cells: "4"}, isTrue}, {asked{def: 6, which: 1, args: "9 true", result: "40", cells: "4"}, isTrue}, {asked{def: 6, which: 1, args: "2 true", result: "3", old: "3"}, isTrue}, {asked{def: 6, which: 1, args: "-1 true", result: "x"}, isTrue}, {asked{def: 6, which: 1, args: "-1 true", result: "00"}, isTrue}, {asked{def: 6, which: 1, args: "0 true"}, isFalse},
		{asked{def: 7, which: 1, result: "true", old: "1", cells: "2"}, isTrue}, {asked{def: 7, which: 1, result: "false", old: "1", cells: "2"}, isFalse}, {asked{def: 7, which: 1, result: "false", old: "2", cells: "2"}, isTrue}, {asked{def: 7, which: 1, result: "other", old: "2", cells: "2"}, isTrue}, {asked{def: 7, which: 1, result: "true", old: "2", cells: "2"}, isFalse},
		{asked{def: 8, which: 1, args: "1", result: "()"}, isTrue}, {asked{def: 8, which: 1, args: "1", result: "7"}, isTrue}, {asked{def: 8, which: 1, args: "2", result: "()"}, isFalse}, {asked{def: 8, args: "2"}, isTrue},
		{asked{def: 10, args: "1 1", fuel: 1}, isTrue}, {asked{def: 10, args: "0 1", fuel: 1}, untold}, {asked{def: 10, args: "1 0", fuel: 1}, untold}, {asked{def: 10, args: "1 1"}, untold}, {asked{def: 10, which: 1, args: "0 0", result: "1", fuel: 1}, isTrue}, {asked{def: 10, which: 1, args: "1 1", result: "0", fuel: 1}, untold}, {asked{def: 10, which: 1, result: "1"}, untold},
		{asked{def: 11, args: "4 5 6"}, isTrue}, {asked{def: 11, args: "4 5 7"}, isFalse}, {asked{def: 11, args: "4 6 6"}, isFalse}, {asked{def: 11, args: "3 6 6"}, isFalse}, {asked{def: 11, which: 1, args: "4 5 6", result: "10"}, isTrue}, {asked{def: 11, which: 1, args: "4 5 6", result: "11"}, isFalse}, {asked{def: 11, which: 1, args: "5 5 6", result: "9"}, isFalse},
		{asked{def: 12, args: "2"}, isTrue}, {asked{def: 12, args: "3"}, isFalse}, {asked{def: 12, which: 1, args: "2", result: "3"}, isTrue}, {asked{def: 12, which: 1, args: "3", result: "2"}, isFalse},
	} {
		if got := x.answer(l); got != x.want {
			t.Errorf("P20.2: %+v: %v", x.asked, got)
		}
		for _, other := range []int{-1, 2, 3, 1 << 62, -1 << 63} {
			x.which = other
			if got := x.answer(l); got != untold {
				t.Errorf("P20.2: %+v: %v", x.asked, got)
			}
		}
	}
}

// TestEachFormulaStartsAnew asks with fuel that is just enough for each formula, and with one less for one of them.
func TestEachFormulaStartsAnew(t *testing.T) {
	l := checked(t, contracts)
	for _, x := range []struct {
		asked
		needed int
	}{
		{asked{def: 9, args: "0 0"}, 2}, {asked{def: 9, args: "2 3"}, 7}, {asked{def: 9, args: "9 0"}, 11}, {asked{def: 9, args: "0 9"}, 11}, {asked{def: 9, which: 1, args: "0 50", result: "4"}, 6}, {asked{def: 9, which: 1, args: "7 50", result: "0"}, 9}, {asked{def: 9, which: 1, args: "0 50", result: "0"}, 2},
	} {
		for fuel := -1; fuel < x.needed+3; fuel++ {
			x.fuel = fuel
			if got := x.answer(l); got != [2]bool{fuel >= x.needed, fuel >= x.needed} {
				t.Errorf("P20.2: %+v: %v", x.asked, got)
			}
		}
	}
}

// TestOneThatCannotBeReckoned asks for contracts in which one formula can't be reckoned, each in turn, while others are true or false.
func TestOneThatCannotBeReckoned(t *testing.T) {
	for _, other := range []string{"true", "false"} {
		for slow := range 4 {
			part := func(i int) string {
				if i == slow {
					return "down(9) = 0"
				}
				return other
			}
			l := checked(t, contracts+"let f (a : {v : int | "+part(0)+"}) (b : {v : int | "+part(1)+"}) (c : {v : int | "+part(2)+"}) : Pure int requires "+part(3)+" is 1;; "+
				"let g : Pure {r : int | "+part(0)+"} ensures q. "+part(1)+" is 1;; ")
			for which := range 2 {
				if which == 1 && slow > 1 {
					continue
				}
				a := asked{def: 13 + which, which: which, fuel: 9}
				if got := a.answer(l); got != untold {
					t.Errorf("P20.2: %s, %d, %d: %v", other, slow, which, got)
				}
				a.fuel = 10
				if got := a.answer(l); got != [2]bool{other == "true", true} {
					t.Errorf("P20.2: %s, %d, %d: %v with more fuel", other, slow, which, got)
				}
			}
		}
	}
}

// TestBoundsOfFormulas asks for as many calls, and for as many expressions, as may be within one another, and for one more.
func TestBoundsOfFormulas(t *testing.T) {
	t.Parallel()
	l := checked(t, contracts)
	for args, want := range map[string][2]bool{"9999 9999": isTrue, "10000 1": untold, "1 10000": untold} {
		if got := (asked{def: 9, args: args, fuel: 1 << 40}).answer(l); got != want {
			t.Errorf("P20.2: %s: %v", args, got)
		}
	}
	for deep, want := range map[int][2]bool{100000: isTrue, 100001: untold} {
		e := truth(true)
		for range (deep - 1) / 2 * 2 {
			e = of(api.ENot, e)
		}
		if deep%2 == 0 {
			e = of(api.EAnd, e, e)
		}
		for i, d := range []api.Decl{
			{Params: []api.Param{{T: api.Type{Kind: api.TyInt, R: []api.Expr{e}}}}}, {Requires: []api.Expr{e}}, {T: api.Type{Kind: api.TyInt, R: []api.Expr{e}}}, {Ensures: []api.Expr{e}},
		} {
			if got := (asked{which: i / 2}).answer([]api.Decl{d}); got != want {
				t.Errorf("P20.2: %d: %v of %d expressions within one another", i, got, deep)
			}
		}
	}
}
