package model

import (
	"strconv"
	"strings"
	"testing"

	"avow/api"
)

// runTables asks one term in models of one kind of table each.
func runTables(t *testing.T, objects int, asked api.Term, cases []struct {
	tables []api.Table
	want   string
	e      api.Errno
}) {
	t.Helper()
	for i, z := range cases {
		if got, e := Value(sigOf(), api.Model{Objs: objects, Tables: z.tables}, asked); got != z.want || e != z.e {
			t.Errorf("P4.1: %d: %q, %v, wanted %q, %v", i, got, e, z.want, z.e)
		}
	}
}

type tableCases = []struct {
	tables []api.Table
	want   string
	e      api.Errno
}

func TestFirstTableFirstRow(t *testing.T) {
	f := func(other string, rows ...api.Row) api.Table { return tableOf("f", other, rows...) }
	runTables(t, 0, app("f", numeral("5")), tableCases{
		{[]api.Table{f("1", row("2", "5"), row("3", "5"))}, "2", 0},
		{[]api.Table{f("1", row("3", "5"), row("2", "5"))}, "3", 0},
		{[]api.Table{f("1", row("2", "4"), row("3", "5"), row("4", "5"), row("5", "6"))}, "3", 0},
		{[]api.Table{f("1", row("2", "4"))}, "1", 0},
		{[]api.Table{f("1")}, "1", 0},
		{[]api.Table{f("1"), f("2", row("3", "5"))}, "1", 0},
		{[]api.Table{tableOf("g", "9"), f("1", row("2", "5")), f("7", row("8", "5"))}, "2", 0},
		// A row that comes first counts, whatever it tells.
		{[]api.Table{f("1", row("no", "5"), row("3", "5"))}, "", noValue},
		{[]api.Table{f("1", row("2", "5"), row("no", "5"))}, "2", 0},
		{[]api.Table{f("1", row("no", "4"))}, "1", 0},
		{[]api.Table{f("no", row("2", "5"))}, "2", 0},
		{[]api.Table{f("no"), f("1")}, "", noValue},
		{[]api.Table{tableOf("g", "1")}, "", noValue},
		{nil, "", noValue}, {[]api.Table{}, "", noValue}, {[]api.Table{{}}, "", noValue}, {[]api.Table{{Name: "f"}}, "", noValue},
		// Arguments are texts of values: another text, or another number of them, is never met.
		{[]api.Table{f("1", row("2", "05"), row("2", "+5"), row("2", "5 "), row("2", ""), row("2", "#5"))}, "1", 0},
		{[]api.Table{f("1", row("2"), row("2", "5", "5"), row("2", "5", ""), row("2", "5,"), row("2", ",5"))}, "1", 0},
	})
}

func TestRowsOfSeveralArguments(t *testing.T) {
	h := func(rows ...api.Row) []api.Table { return []api.Table{tableOf("h", "false", rows...)} }
	runTables(t, 0, app("h", numeral("12"), op(api.TTrue)), tableCases{
		{h(row("true", "12", "true")), "true", 0},
		{h(row("true", "12", "false")), "false", 0},
		{h(row("true", "true", "12")), "false", 0},
		{h(row("true", "12,true")), "false", 0},
		{h(row("true", "12", "true", "")), "false", 0},
		{h(row("true", "12")), "false", 0},
		{h(row("true", "", "12true")), "false", 0},
		{h(row("true", "12tr", "ue")), "false", 0},
		{h(row("true", "1", "2true")), "false", 0},
		{h(row("true", "12,true", ""), row("true", "", "12,true"), row("true", "12", ",true"), row("true", "12,", "true"), row("true", "12\x00", "true")), "false", 0},
		{h(row("false", "12", "false"), row("no", "12", "no"), row("true", "12", "true")), "true", 0},
	})
}

func TestRowsOfNoArguments(t *testing.T) {
	runTables(t, 0, app("a"), tableCases{
		{[]api.Table{tableOf("a", "1", row("2"), row("3"))}, "2", 0},
		{[]api.Table{tableOf("a", "1", api.Row{Args: []string{}, Out: "2"})}, "2", 0},
		{[]api.Table{tableOf("a", "1", row("2", "5"), row("3", ""))}, "1", 0},
		{[]api.Table{tableOf("a", "1", row("x"))}, "", noValue},
	})
}

// A function is worth a value of its own sort, or there is none.
func TestValuesOfEachSort(t *testing.T) {
	digits := strings.Repeat("7", 700)
	texts := []string{"0", "5", "-7", digits, "-" + digits, "true", "false", "#0", "#2",
		"", "-0", "05", "+5", "-", "0x5", " 5", "5 ", "1e3", "٣", "True", "TRUE", "t", "true ", "#", "#3", "#02", "#-1", "#-0", "#+1", "##1", "# 1", "2#", "#1#", "#true", "#" + digits, "#18446744073709551616"}
	right := map[string]int{"0": ints, "5": ints, "-7": ints, digits: ints, "-" + digits: ints, "true": bools, "false": bools, "#0": objs, "#2": objs}
	for _, text := range texts {
		for sort, name := range map[int]string{ints: "a", bools: "p", objs: "o"} {
			want, wanted := "", noValue
			if right[text] == sort {
				want, wanted = text, api.OK
			}
			got, e := Value(sigOf(), api.Model{Objs: 3, Tables: []api.Table{tableOf(name, text)}}, app(name))
			if got != want || e != wanted {
				t.Errorf("P4.1: Else %.40q of sort %d: %.40q, %v, wanted %.40q, %v", text, sort, got, e, want, wanted)
			}
			got, e = Value(sigOf(), api.Model{Objs: 3, Tables: []api.Table{tableOf(name, "1", row(text))}}, app(name))
			if got != want || e != wanted {
				t.Errorf("P4.1: row %.40q of sort %d: %.40q, %v, wanted %.40q, %v", text, sort, got, e, want, wanted)
			}
		}
	}
}

func TestObjectsUpToTheBound(t *testing.T) {
	for _, z := range []struct{ given, there int }{
		{-1 << 63, 0}, {-1, 0}, {0, 0}, {1, 1}, {2, 2}, {11, 11}, {999, 999}, {1000, 1000}, {1001, 1000}, {1 << 40, 1000}, {1<<63 - 1, 1000},
	} {
		for _, n := range []int{0, 1, 2, 9, 10, 11, 255, 256, 998, 999, 1000, 1001, 5000} {
			text := "#" + strconv.Itoa(n)
			want, wanted := text, api.OK
			if n >= z.there {
				want, wanted = "", noValue
			}
			if got, e := Value(sigOf(), api.Model{Objs: z.given, Tables: []api.Table{tableOf("o", text)}}, app("o")); got != want || e != wanted {
				t.Errorf("P4.1: %s of %d objects: %q, %v, wanted %q, %v", text, z.given, got, e, want, wanted)
			}
		}
	}
}

// An error in an operand is told, though what the others are decides.
func TestErrorsInOperandsThatDoNotDecide(t *testing.T) {
	a, p, q, o := app("a"), app("p"), app("q"), app("o")
	lost := app("none", o)
	choice := func(c, x, y api.Term) api.Term { return op(api.TIte, c, x, y) }
	lostNumber := choice(lost, a, a)
	for i, x := range []api.Term{
		lost, op(api.TNot, lost), op(api.TAnd, q, lost), op(api.TAnd, lost, q), op(api.TOr, p, lost), op(api.TOr, lost, p), op(api.TImp, q, lost), op(api.TImp, lost, p), op(api.TIff, lost, lost),
		choice(p, p, lost), choice(q, lost, p), choice(lost, p, p), choice(p, op(api.TAdd, a), lostNumber),
		same(lostNumber, lostNumber), op(api.TLe, a, lostNumber), op(api.TLt, lostNumber, a), op(api.TAdd, a, a, lostNumber), op(api.TSub, lostNumber, lostNumber), op(api.TNeg, lostNumber), op(api.TMul, numeral("0"), lostNumber),
		app("f", lostNumber), app("h", a, lost), app("h", lostNumber, p), op(api.TAnd, q, op(api.TOr, p, op(api.TNot, op(api.TImp, q, lost)))),
	} {
		runValues(t, modelOf(), []valueCase{{x, "", noValue}})
		if _, e := Holds(sigOf(), modelOf(), []api.Term{same(x, x)}); e != noValue {
			t.Errorf("P4.2: %d: %v", i, e)
		}
	}
}

// A table of many rows is asked as fast as one of few.
func TestManyRows(t *testing.T) {
	const many = 200000
	var rows []api.Row
	for i := range many {
		rows = append(rows, row(strconv.Itoa(i+1), strconv.Itoa(i)))
	}
	var l []api.Term
	for i := range 20000 {
		l = append(l, app("f", numeral(strconv.Itoa(i*10+9))))
	}
	m := api.Model{Tables: []api.Table{tableOf("f", "0", rows...)}}
	if got, e := Value(sigOf(), m, op(api.TAdd, l...)); got != "2000100000" || e != api.OK {
		t.Errorf("P4.1: %q, %v", got, e)
	}
}
