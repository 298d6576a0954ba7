package kinds_test

import (
	"testing"

	"avow/api"
)

// TestEffect asks for the effects of bodies, wherever they are allowed.
func TestEffect(t *testing.T) {
	none, cells, raises, both, all := effect{}, effect{cells: true}, effect{raises: true}, effect{cells: true, raises: true}, effect{true, true, true}
	for e, wanted := range map[string]effect{
		"1": none, "()": none, "true": none, "n": none, "-n + 2 * n - n": none, "not (n = 1) && n <> 2 || n < 1 ==> n <= 1 && n > 2 && n >= 3": none, "if n = 1 then 2 else 3": none, "let k = n in k": none, "1; 2": none, "assert false": none, "try 1 with e -> e": none, "p(n)": none,
		"!c": cells, "c := 1": cells, "s()": cells, "raise 1": raises, "x()": raises, "a()": both, "d()": all, "s() + x()": both, "x() - d()": all, "raise !c": both, "raise s()": both, "c := (raise 1)": both, "raise d()": all,
		// of operands, each one
		"1 + !c": cells, "!c + 1": cells, "2 * !c": cells, "-!c": cells, "not (!c = 1)": cells, "1 < x()": raises, "x() >= 1": raises, "n = 1 && x() = 1": raises, "x() = 1 ==> true": raises, "if x() = 1 then 1 else 2": raises, "if n = 1 then x() else 2": raises, "if n = 1 then 2 else x()": raises, "if n = 1 then !c else x()": both, "if d() = 1 then 1 else 2": all, "let k = !c in 1": cells, "let k = 1 in !c": cells, "let k = !c in x()": both, "x(); 1": raises, "1; x()": raises, "!c; x()": both, "p(x())": raises, "p(p(!c))": cells, "t(1, !c)": cells, "t(x(), !c)": both, "assert !c = 1": cells, "assert x() = 1": raises, "c := x()": both,
		// of a try, the second alone
		"try x() with e -> e": none, "try raise 1 with e -> e": none, "try 1 with e -> x()": raises, "try x() with e -> raise e": raises, "try !c with e -> 1": cells, "try 1 with e -> !c": cells, "try a() with e -> 1": cells, "try 1 with e -> a()": both, "try d() with e -> 1": {cells: true, endless: true}, "try 1 with e -> d()": all, "try d() with e -> x()": all, "try s() + x() with e -> e": cells,
		"(try x() with e -> e) + x()": raises, "x() + (try x() with e -> e)": raises, "(try x() with e -> e) + (try x() with e -> e)": none, "try (try x() with e -> x()) with e -> 1": none, "try 1 with e -> (try x() with e -> 1)": none, "try (try 1 with e -> 1) with e -> x()": raises, "try (let k = x() in raise k) with e -> 1": none, "let k = (try x() with e -> e) in raise k": raises,
	} {
		l := resolved(t, "ref c := 1;; let p (a : int) : Pure int is a;; let t (a : int) (b : int) : Pure int is 1;; let s : State int is 1;; let x : Exn int is 1;; let a : All int is 1;; let d : Div int is 1;; let f (n : int) : All int is "+e+";;")
		if got := effectOf(l, l[len(l)-1].Body); got != wanted {
			t.Errorf("P18.2: %s: %+v, wanted %+v", e, got, wanted)
		}
	}
}

// TestEffectOfWhatIsOld: an old in a formula reads too.
func TestEffectOfWhatIsOld(t *testing.T) {
	l := resolved(t, "ref c := 1;; let f : State int ensures r. r = old c is 1;; let g (b : bool) : Pure int requires b is 1;;")
	if got := effectOf(l, l[1].Ensures[0]); got != (effect{cells: true}) {
		t.Errorf("P18.2: %+v", got)
	}
	if got := effectOf(l, l[2].Requires[0]); got != (effect{}) {
		t.Errorf("P18.2: %+v", got)
	}
}

// TestEffectOfCalls asks of calls by numbers: of definitions alone, which need not be ahead.
func TestEffectOfCalls(t *testing.T) {
	l := resolved(t, "let f : Pure int is 1;; ref c := 1;; let g : Div int is 1;; ref d := 1;; let h : Exn int is 1;;")
	for number, wanted := range map[int]effect{0: {}, 1: {true, true, true}, 2: {raises: true}, 3: {}, -1: {}, -1 << 63: {}, 1<<63 - 1: {}} {
		for _, args := range [][]api.Expr{nil, {{Op: api.ENum, N: "1"}}} {
			if got := effectOf(l, api.Expr{Op: api.ECall, I: number, L: args}); got != wanted {
				t.Errorf("P18.2: a call of %d: %+v, wanted %+v", number, got, wanted)
			}
		}
	}
	inner := api.Expr{Op: api.ECall, I: 9, L: []api.Expr{{Op: api.ERead}}}
	if got := effectOf(l, inner); got != (effect{cells: true}) {
		t.Errorf("P18.2: an argument's: %+v", got)
	}
}
