package eval_test

import (
	"strings"
	"testing"

	"avow/api"
	"avow/eval"
)

var nines = strings.Repeat("9", api.MaxDigits)

// TestValues asks for each operator's value. (A kind, a text over x, y, b, u, and the value where x is 5, y is -3, b is true, c is 7 and d is -8.)
func TestValues(t *testing.T) {
	for _, x := range [][3]string{
		{"int", "0", "0"}, {"int", "12", "12"}, {"int", nines, nines}, {"bool", "true", "true"}, {"bool", "false", "false"}, {"unit", "()", "()"},
		{"int", "x", "5"}, {"int", "y", "-3"}, {"bool", "b", "true"}, {"unit", "u", "()"}, {"int", "!c", "7"}, {"int", "!d", "-8"},
		{"int", "-x", "-5"}, {"int", "-y", "3"}, {"int", "-0", "0"}, {"int", "- - x", "5"}, {"bool", "not b", "false"}, {"bool", "not not b", "true"},
		{"int", "x + y", "2"}, {"int", "y + y", "-6"}, {"int", "x - y", "8"}, {"int", "y - x", "-8"}, {"int", "x - x", "0"}, {"int", "2 * x", "10"}, {"int", "x * -2", "-10"}, {"int", "-2 * y", "6"}, {"int", "0 * y", "0"}, {"int", "10 - 2 - 3", "5"}, {"int", "10 - (2 - 3)", "11"}, {"int", "1 + 2 * 3", "7"},
		{"int", nines + " + 1", "1" + strings.Repeat("0", api.MaxDigits)}, {"int", nines + " * " + nines + " - " + nines + " * " + nines, "0"}, {"int", "1 - " + nines + " - 2", "-1" + strings.Repeat("0", api.MaxDigits)}, {"int", "9223372036854775807 + 1", "9223372036854775808"}, {"int", "-9223372036854775807 - 2", "-9223372036854775809"},
		{"bool", "x = 5", "true"}, {"bool", "x = y", "false"}, {"bool", "x = -5", "false"}, {"bool", "x <> 5", "false"}, {"bool", "x <> y", "true"}, {"bool", "b = true", "true"}, {"bool", "b = false", "false"}, {"bool", "false = false", "true"}, {"bool", "b <> true", "false"}, {"bool", "b <> false", "true"}, {"bool", nines + " = " + nines, "true"}, {"bool", nines + " + 1 = " + nines, "false"},
		{"bool", "y < x", "true"}, {"bool", "x < x", "false"}, {"bool", "x < y", "false"}, {"bool", "y <= x", "true"}, {"bool", "x <= x", "true"}, {"bool", "x <= y", "false"}, {"bool", "y > x", "false"}, {"bool", "x > x", "false"}, {"bool", "x > y", "true"}, {"bool", "y >= x", "false"}, {"bool", "x >= x", "true"}, {"bool", "x >= y", "true"}, {"bool", "10 > 9", "true"}, {"bool", "-10 < -9", "true"},
		{"bool", "true && true", "true"}, {"bool", "true && false", "false"}, {"bool", "false && true", "false"}, {"bool", "false && false", "false"}, {"bool", "true || true", "true"}, {"bool", "true || false", "true"}, {"bool", "false || true", "true"}, {"bool", "false || false", "false"}, {"bool", "true ==> true", "true"}, {"bool", "true ==> false", "false"}, {"bool", "false ==> true", "true"}, {"bool", "false ==> false", "true"},
		{"int", "if b then x else y", "5"}, {"int", "if not b then x else y", "-3"}, {"unit", "if b then u else ()", "()"}, {"bool", "if x = 5 then x = 6 else b", "false"},
		{"int", "let v = x + 1 in v * 2 + x", "17"}, {"int", "let v = 1 in let w = 2 in v - w", "-1"}, {"int", "let v = 1 in let v = v + 1 in v + x", "7"}, {"int", "(let v = 1 in v) + (let w = 2 in let v = 3 in w - v) + x", "5"}, {"bool", "let v = b in v && b", "true"}, {"unit", "let v = u in v", "()"}, {"int", "let v = () in let w = true in x", "5"}, {"int", "let x = y in let y = x in x + y", "-6"},
		{"int", "1; 2", "2"}, {"unit", "1; b; ()", "()"}, {"unit", "c := 3", "()"}, {"int", "c := 3; !c", "3"}, {"int", "c := 3; d := !c + 1; !c + !d", "7"}, {"int", "c := !c + 1; c := !c * 2; !c", "16"}, {"unit", "assert b", "()"}, {"int", "assert b; x", "5"},
		{"int", "id(x)", "5"}, {"int", "minus(x, y)", "8"}, {"int", "minus(y, x)", "-8"}, {"int", "minus(minus(1, 2), minus(3, x))", "1"}, {"int", "let v = 1 in minus(v, let w = x in w + v)", "-5"}, {"int", "set(4) + !c", "8"}, {"int", "!c + set(4)", "11"}, {"bool", "sure(b)", "true"}, {"int", "down(9)", "0"},
		{"int", "try x with e -> y", "5"}, {"int", "try raise x with e -> e + y", "2"}, {"int", "try raise x + 1; 3 with e -> e", "6"}, {"bool", "try (raise 1) = 1 with e -> e = 1", "true"}, {"unit", "try c := (raise 1) with e -> u", "()"}, {"int", "try raise 3 with e -> let v = 4 in e - v + x", "4"}, {"int", "let v = 2 in try raise v with e -> e * 10 + v", "22"},
	} {
		l, def := over(t, x[0], x[1])
		got := eval.Run(l, def, []string{"5", "-3", "true", "()"}, []string{"7", "-8"}, 100)
		if got.Out != api.OutValue || got.Value != x[2] {
			t.Errorf("P20.1: %.200s: %v", x[1], shortened(got))
		}
	}
}

// TestOrder asks for what is done in which order, and what isn't done: outcomes with values and cells.
func TestOrder(t *testing.T) {
	value, raise, fails := api.OutValue, api.OutRaise, api.OutAssert
	for _, x := range []struct {
		kind, text string
		want       api.Result
	}{
		{"int", "set(1) - set(2) * 10", result(value, "-19", "2", "0")}, {"int", "set(1) * 10 - set(2)", result(value, "8", "2", "0")}, {"int", "minus(set(1), set(2))", result(value, "-1", "2", "0")}, {"bool", "set(3) < set(2)", result(value, "false", "2", "0")}, {"bool", "set(2) = set(3) - 1", result(value, "true", "3", "0")}, {"bool", "put(1) = put(2)", result(value, "true", "0", "2")}, {"bool", "set(1) > (c := !c + 1; !c)", result(value, "false", "2", "0")}, {"bool", "(c := 1; b) <> (c := !c + 1; not b)", result(value, "true", "2", "0")},
		{"bool", "put(0) && put(2)", result(value, "false", "0", "0")}, {"bool", "put(1) && put(2)", result(value, "true", "0", "2")}, {"bool", "put(1) && put(-2)", result(value, "false", "0", "-2")}, {"bool", "put(1) || put(2)", result(value, "true", "0", "1")}, {"bool", "put(-1) || put(2)", result(value, "true", "0", "2")}, {"bool", "put(-1) || put(-2)", result(value, "false", "0", "-2")}, {"bool", "put(-1) ==> put(2)", result(value, "true", "0", "-1")}, {"bool", "put(1) ==> put(-2)", result(value, "false", "0", "-2")}, {"bool", "put(1) ==> put(2)", result(value, "true", "0", "2")},
		{"bool", "false && sure(false)", result(value, "false", "0", "0")}, {"bool", "true || sure(false)", result(value, "true", "0", "0")}, {"bool", "false ==> sure(false)", result(value, "true", "0", "0")}, {"bool", "true && sure(false)", result(fails, "", "0", "0")}, {"bool", "false || sure(false)", result(fails, "", "0", "0")}, {"bool", "true ==> sure(false)", result(fails, "", "0", "0")},
		{"int", "if put(1) then set(2) else set(3)", result(value, "2", "2", "1")}, {"int", "if put(0) then set(2) else set(3)", result(value, "3", "3", "0")}, {"int", "let v = set(2) in !c + v", result(value, "4", "2", "0")}, {"int", "set(1); set(2)", result(value, "2", "2", "0")},
		{"unit", "c := (c := 4; !c + 1)", result(value, "()", "5", "0")}, {"unit", "c := 1; c := !c + 1; d := !c", result(value, "()", "2", "2")}, {"unit", "c := (raise 3)", result(raise, "3", "0", "0")}, {"unit", "c := (d := 4; raise 3)", result(raise, "3", "0", "4")},
		{"int", "raise 1", result(raise, "1", "0", "0")}, {"int", "raise -" + nines, result(raise, "-"+nines, "0", "0")}, {"int", "raise (c := 1; 2)", result(raise, "2", "1", "0")}, {"int", "raise ((raise 1) + (raise 2))", result(raise, "1", "0", "0")}, {"int", "raise 1 + (c := 2; 3)", result(raise, "4", "2", "0")}, {"int", "(raise 1) + set(2)", result(raise, "1", "0", "0")}, {"int", "set(2) + (raise 1)", result(raise, "1", "2", "0")}, {"int", "minus(raise 1, set(2))", result(raise, "1", "0", "0")}, {"int", "minus(set(2), raise 1)", result(raise, "1", "2", "0")}, {"int", "raise 1; set(2)", result(raise, "1", "0", "0")}, {"int", "let v = raise 1 in set(2)", result(raise, "1", "0", "0")}, {"int", "if (raise 1) = 1 then set(2) else set(3)", result(raise, "1", "0", "0")}, {"bool", "(raise 1) = set(2)", result(raise, "1", "0", "0")}, {"bool", "true || (raise 1) = 1", result(value, "true", "0", "0")}, {"bool", "false || (raise 1) = 1", result(raise, "1", "0", "0")}, {"unit", "assert (raise 1) = 1", result(raise, "1", "0", "0")}, {"int", "-(raise 1)", result(raise, "1", "0", "0")}, {"int", "up(3)", result(raise, "4", "0", "3")}, {"int", "set(1) + up(3) + set(2)", result(raise, "4", "1", "3")},
		{"int", "try set(1) with e -> set(2)", result(value, "1", "1", "0")}, {"int", "try (c := 5; raise 6; c := 7; 1) with e -> e * 10 + !c", result(value, "65", "5", "0")}, {"int", "try up(3) with e -> e * 10 + !d", result(value, "43", "0", "3")}, {"int", "try raise 1 with e -> raise e + 1", result(raise, "2", "0", "0")}, {"int", "try (try raise 1 with e -> raise e + 1) with f -> f * 10", result(value, "20", "0", "0")}, {"int", "try (try raise 1 with e -> e + 1) with f -> f * 10", result(value, "2", "0", "0")}, {"int", "try raise 1 with e -> try raise e + 1 with f -> e * 10 + f", result(value, "12", "0", "0")}, {"int", "let v = 7 in (try (let w = 8 in raise w) with e -> v * 10 + e) + v", result(value, "85", "0", "0")}, {"int", "(try raise 1 with e -> e) + (try raise 2 with e -> e * 10)", result(value, "21", "0", "0")}, {"int", "(try up(1) with e -> e) + up(2)", result(raise, "3", "0", "2")},
		{"unit", "assert false", result(fails, "", "0", "0")}, {"unit", "c := 1; assert 1 = 2; c := 2", result(fails, "", "1", "0")}, {"unit", "assert put(0)", result(fails, "", "0", "0")}, {"unit", "assert put(1)", result(value, "()", "0", "1")}, {"int", "try (c := 1; assert false; 1) with e -> set(2)", result(fails, "", "1", "0")}, {"int", "try raise 3 with e -> (c := e; assert false; 2)", result(fails, "", "3", "0")}, {"bool", "try (try sure(false) with e -> true) with f -> true", result(fails, "", "0", "0")}, {"int", "(assert false; 1) + (raise 2)", result(fails, "", "0", "0")}, {"int", "raise (assert false; 1)", result(fails, "", "0", "0")},
	} {
		l, def := over(t, x.kind, x.text)
		mustBe(t, x.text, l, def, nil, nil, 1000, x.want)
	}
}

// TestTexts asks with arguments and cells that aren't right, that are missing, and of which there are too many.
func TestTexts(t *testing.T) {
	big := "1" + nines + nines + nines
	for _, x := range [][2]string{
		{"0", "0"}, {"7", "7"}, {"-7", "-7"}, {big, big}, {"-" + big, "-" + big}, {"", "0"}, {"-", "0"}, {"-0", "0"}, {"00", "0"}, {"07", "0"}, {"-07", "0"}, {"+7", "0"}, {" 7", "0"}, {"7 ", "0"}, {"7.0", "0"}, {"1e3", "0"}, {"0x7", "0"}, {"7_0", "0"}, {"--7", "0"}, {"true", "0"}, {"()", "0"}, {"٣", "0"}, {"\xff", "0"}, {"9223372036854775807", "9223372036854775807"}, {"-9223372036854775808", "-9223372036854775808"},
	} {
		l, def := over(t, "int", "x")
		mustBe(t, x[0], l, def, []string{x[0], "5"}, []string{x[0], "1", x[0]}, 1, result(api.OutValue, x[1], x[1], "1"))
		l, def = over(t, "int", "y + !d")
		mustBe(t, x[0], l, def, []string{"9", x[0]}, []string{"9", "0"}, 1, result(api.OutValue, x[1], "9", "0"))
	}
	for _, x := range [][2]string{
		{"true", "true"}, {"false", "false"}, {"", "false"}, {"True", "false"}, {"TRUE", "false"}, {"t", "false"}, {"1", "false"}, {" true", "false"}, {"true ", "false"}, {"()", "false"}, {"yes", "false"}, {"truetrue", "false"},
	} {
		l, def := over(t, "bool", "b")
		mustBe(t, x[0], l, def, []string{"1", "2", x[0]}, nil, 1, result(api.OutValue, x[1], "0", "0"))
	}
	for _, text := range []string{"()", "", "true", "5"} {
		l, def := over(t, "unit", "u")
		mustBe(t, text, l, def, []string{"1", "2", "true", text, "6"}, []string{"1", "2", "3"}, 1, result(api.OutValue, "()", "1", "2"))
	}
	for given, want := range []string{"false", "true", "true", "true", "true"} {
		l, def := over(t, "bool", "u; x - y = 4 - 5 || x = 4 && y = 0 && not b")
		mustBe(t, "missing arguments", l, def, []string{"4", "5", "false", "()"}[:min(given, 4)], nil, 1, result(api.OutValue, want, "0", "0"))
	}
}

// TestMissing asks for parameters and cells of which no text tells: cells are 0, not what they are first.
func TestMissing(t *testing.T) {
	for _, x := range []struct{ kind, text, want string }{
		{"int", "x + y", "0"}, {"bool", "b", "false"}, {"unit", "u", "()"}, {"int", "!c", "0"}, {"int", "!d", "0"},
	} {
		l, def := over(t, x.kind, x.text)
		for _, none := range [][]string{nil, {}} {
			mustBe(t, x.text, l, def, none, none, 1, result(api.OutValue, x.want, "0", "0"))
			mustBe(t, x.text, l, def, none, []string{"0"}, 1, result(api.OutValue, x.want, "0", "0"))
		}
	}
	l, def := over(t, "int", "!c * 10 + !d")
	mustBe(t, "one cell", l, def, nil, []string{"3"}, 1, result(api.OutValue, "30", "3", "0"))
	l = checked(t, "let f (x : int) : Pure int is x;;")
	if got := eval.Run(l, 0, []string{"6"}, []string{"1"}, 1); !same(got, result(api.OutValue, "6")) || got.Cells != nil {
		t.Errorf("P20.1: %v where there are no cells", got)
	}
}

// TestCellsBehind asks for a cell that is told behind the definition, and for definitions between cells.
func TestCellsBehind(t *testing.T) {
	l := checked(t, "ref a := 1;; let f (n : int) : State int is a := !a + n; !a;; ref b := 2;; ref c := 3;; let g (n : int) : State int is c := f(n) + !b; !c - !a;; ref d := 4;;")
	mustBe(t, "f", l, 0, []string{"5"}, []string{"10", "20", "30", "40"}, 9, result(api.OutValue, "15", "15", "20", "30", "40"))
	mustBe(t, "g", l, 1, []string{"5"}, []string{"10", "20", "30", "40"}, 9, result(api.OutValue, "20", "15", "20", "35", "40"))
	mustBe(t, "g", l, 1, []string{"5"}, []string{"10", "20", "30", "40"}, 1, result(api.OutFuel, "", "10", "20", "30", "40"))
}

// TestStart asks for cells' first numbers.
func TestStart(t *testing.T) {
	for _, x := range []struct {
		l    []api.Decl
		want []string
	}{
		{nil, nil}, {[]api.Decl{}, nil}, {checked(t, "let f : Pure int is 1;;"), nil}, {checked(t, prelude), []string{"1", "-2"}}, {checked(t, "ref a := 0;; ref b := -0;; ref c := "+nines+";; ref d := -"+nines+";;"), []string{"0", "0", nines, "-" + nines}},
		{[]api.Decl{{Cell: true, N: "07"}, {N: "5"}, {Cell: true}, {Cell: true, N: "x"}, {Cell: true, N: "-4"}}, []string{"0", "0", "0", "-4"}},
	} {
		got := eval.Start(x.l)
		if strings.Join(got, " ") != strings.Join(x.want, " ") || len(got) != len(x.want) {
			t.Errorf("P20.1: %v, wanted %v", got, x.want)
		}
	}
}

// TestNoDefinition asks for definitions that there aren't: nothing is told.
func TestNoDefinition(t *testing.T) {
	l := checked(t, "ref c := 1;; let f : Pure int is 1;; ref d := 1;;")
	for _, def := range []int{-1, 1, 2, 3, 1 << 62, -1 << 63} {
		if got := eval.Run(l, def, nil, []string{"4"}, 9); got.Out != api.OutFuel || got.Value != "" || len(got.Cells) != 0 {
			t.Errorf("P20.1: %d: %v", def, got)
		}
		for which := range 2 {
			if yes, told := eval.Formula(l, def, which, nil, "", nil, nil, 9); yes || told {
				t.Errorf("P20.2: %d: %v, %v", def, yes, told)
			}
		}
	}
	if got := eval.Run(nil, 0, nil, nil, 9); got.Out != api.OutFuel || got.Value != "" || len(got.Cells) != 0 {
		t.Errorf("P20.1: %v", got)
	}
}

// aged tells a program with EOld for ERead in the body of its last definition, which no text says, of the cell of that number.
func aged(l []api.Decl, cell int) []api.Decl {
	var age func(e *api.Expr)
	age = func(e *api.Expr) {
		if e.Op == api.ERead && e.I == cell {
			e.Op = api.EOld
		}
		for i := range e.L {
			age(&e.L[i])
		}
	}
	age(&l[len(l)-1].Body)
	return l
}

// TestOldInBodies asks for what a cell was as the run began, also within calls, and behind a raise.
func TestOldInBodies(t *testing.T) {
	l := aged(checked(t, "ref c := 1;; ref d := 2;; let f (n : int) : State int is d := !d + 1; c := n; !c + !d * 100;;"), 0)
	mustBe(t, "old", l, 0, []string{"5"}, []string{"7", "8"}, 9, result(api.OutValue, "907", "5", "9"))
	l = append(l, checked(t, "ref c := 1;; ref d := 2;; let f (n : int) : State int is 0;; let g (n : int) : All int is c := 40; (try f(1) + f(2); raise !c with e -> f(3) + e);;")[3])
	mustBe(t, "old, called", l, 1, nil, []string{"7", "8"}, 9, result(api.OutValue, "1109", "3", "11"))
	mustBe(t, "old, missing", l, 0, []string{"5"}, nil, 9, result(api.OutValue, "100", "5", "1"))
	l = aged(checked(t, "ref c := 1;; ref d := 2;; let f (n : int) : State int is c := n; d := n; !c * 10 + !d;;"), 1)
	mustBe(t, "old", l, 0, []string{"5"}, []string{"7", "8"}, 9, result(api.OutValue, "58", "5", "5"))
}
