package lia

import (
	"math/big"
	"slices"
	"strings"
	"testing"

	"avow/api"
)

// longest: as great as a number of a row may be: an odd number.
var longest = strings.Repeat("9", api.MaxDigits)

// TestNoRows: P9.1, ErrLin.
func TestNoRows(t *testing.T) {
	texts := []string{"", "-", "+1", "01", "-01", "00", "-0", " 1", "1 ", "1\n", "x", "1x", "0x1", "1_0", "1.0", "1e3", "--1", "1-", "\u0661", "\uff11", "\xff", longest + "0", "-" + longest + "0", "1" + strings.Repeat("0", api.MaxDigits), "-1" + strings.Repeat("0", 1<<20)}
	var wrong []api.Lin
	for _, text := range texts {
		wrong = append(wrong, row(text), row(text, "x", "1"), row("0", "x", text), row("0", "y", "1", "x", text), row("0", "x", text, "y", "1"), row("0", "x", text, "x", "1"))
	}
	for _, name := range []string{"", strings.Repeat("n", api.MaxKey+1), strings.Repeat("é", api.MaxKey/2) + "n", strings.Repeat("n", 1<<20)} {
		wrong = append(wrong, row("0", name, "1"), row("0", name, "0"), row("0", "x", "1", name, "1"), row("0", name, "1", "x", "1"))
	}
	wrong = append(wrong, row("", "", ""), api.Lin{}, api.Lin{C: []api.Coef{{}}, K: "1"})
	right := rows("1 x <= 1\n -1 x <= -2\n 2 x 1 y <= 3")
	for _, x := range wrong {
		for at := range len(right) + 1 {
			l := slices.Insert(slices.Clone(right), at, x)
			for _, steps := range []int{enough, 1, 0, -1} {
				a := solve(l, steps)
				if a.err != api.ErrLin || a.verdict != 0 || len(a.at) > 0 || !isZero(a.f) {
					t.Fatalf("P9.1: %.300v at %d: %v", x, at, a)
				}
			}
		}
	}
}

// verdictOf: rows, and their verdict.
type verdictOf struct {
	l    []api.Lin
	want int
}

func checkAll(t *testing.T, l []verdictOf) {
	t.Helper()
	for _, x := range l {
		if a := ask(t, x.l, enough); a.verdict != x.want {
			t.Errorf("P9.1: %.300v: %d, not %d", x.l, a.verdict, x.want)
		}
	}
}

// TestEdges: P9.1, at the edges of what rows are.
func TestEdges(t *testing.T) {
	long, wide := strings.Repeat("n", api.MaxKey), strings.Repeat("é", api.MaxKey/2)
	checkAll(t, []verdictOf{
		{nil, api.Sat},
		{[]api.Lin{}, api.Sat},
		{[]api.Lin{row("-1")}, api.Unsat},
		{[]api.Lin{row("0")}, api.Sat},
		{[]api.Lin{row("1")}, api.Sat},
		{[]api.Lin{row("0"), row("1"), row("-7"), row("-1")}, api.Unsat},
		{[]api.Lin{{K: "-1", C: []api.Coef{}}}, api.Unsat},
		{[]api.Lin{row("-" + longest)}, api.Unsat},
		{[]api.Lin{row(longest)}, api.Sat},
		{[]api.Lin{row("3", "x", "0")}, api.Sat},
		{[]api.Lin{row("-3", "x", "0")}, api.Unsat},
		{[]api.Lin{row("-3", long, "1")}, api.Sat},
		{[]api.Lin{row("-3", long, "1"), row("2", long, "-1")}, api.Unsat},
		{[]api.Lin{row("-3", wide, "1"), row("3", wide, "-1")}, api.Sat},
		{[]api.Lin{row("-3", "\xff", "1"), row("-3", "\xfe", "-1"), row("-1", " ", "1"), row("1", "\x00", "2", "\n", "-3")}, api.Sat},
	})
}

// TestTwice: P9.1: a name that stands twice in a row counts twice.
func TestTwice(t *testing.T) {
	checkAll(t, []verdictOf{
		{rows("1 x 1 x <= 5\n -2 x <= -5"), api.Unsat},
		{rows("1 x 1 x <= 5\n -2 x <= -4"), api.Sat},
		{rows("1 x 1 x <= 4\n -1 x <= -3"), api.Unsat},
		{rows("1 x -1 x <= -1"), api.Unsat},
		{rows("1 x -1 x <= 0"), api.Sat},
		{rows("1 x -1 x <= 0\n 1 y <= -4"), api.Sat},
		{rows("3 x 1 y -2 x -1 y <= -7\n -1 x <= 6"), api.Unsat},
		{rows("3 x 1 y -2 x -1 y <= -7\n -1 x <= 7"), api.Sat},
		{rows("5 x 0 x -5 x 0 y 2 y <= 1\n -2 y <= -1"), api.Unsat},
		{[]api.Lin{row("0", "x", longest, "x", longest), row("-1", "x", "-"+longest, "x", "-"+longest)}, api.Unsat},
		{[]api.Lin{row("0", "x", longest, "x", longest), row("1", "x", "-"+longest, "x", "-"+longest)}, api.Sat},
	})
}

// TestNames: P9.1: each name has a number, also if all its coefficients are 0, or come to 0.
func TestNames(t *testing.T) {
	l := []api.Lin{row("5", "b", "0", "a", "1", "B", "-1"), row("-2", "é", "1", "a", "0"), row("1"), row("7", "\xff", "0"), row("-9", "aa", "-1", "a\x00", "2", "a\x00", "-2", "b", "0"), row("0", "z", "1", "z", "-1")}
	a := ask(t, l, enough)
	if a.verdict != api.Sat || len(a.at) != 8 {
		t.Errorf("P9.1: %v", a)
	}
}

// TestExample: the chapter's.
func TestExample(t *testing.T) {
	a := ask(t, rows("2 x <= 1\n -2 x <= -1"), enough)
	if a.verdict != api.Unsat || !a.f.Split || a.f.Row.K != "0" || !slices.Equal(a.f.Row.C, []api.Coef{{Name: "x", N: "1"}}) {
		t.Errorf("P9.1: %v", a)
	}
}

// TestSums: P9.1: what fractions refute, too, is refuted by a sum alone.
func TestSums(t *testing.T) {
	for _, text := range []string{"1 x <= 1\n -1 x <= -2", "2 x <= 1\n -2 x <= -3", "4 x <= 3\n 7 y <= 0\n -4 x <= -5", "3 x 2 y <= 4\n -1 x <= -1\n -2 y <= -3", "0 x <= -2", "1 x -1 y <= 0\n 1 y -1 z <= 0\n 2 z -2 x <= -1"} {
		if a := ask(t, rows(text), enough); a.verdict != api.Unsat || a.f.Split {
			t.Errorf("P9.1: %q: %v", text, a)
		}
	}
}

// TestLong: P9.1, with numbers of MaxDigits digits.
func TestLong(t *testing.T) {
	n, _ := number(longest, api.MaxDigits)
	less := new(big.Int).Sub(n, big.NewInt(1)).String()
	opposite := func(x string) string { return "-" + x }
	checkAll(t, []verdictOf{
		{[]api.Lin{row(longest, "x", "1"), row(opposite(longest), "x", "-1")}, api.Sat},
		{[]api.Lin{row(less, "x", "1"), row(opposite(longest), "x", "-1")}, api.Unsat},
		{[]api.Lin{row(longest, "x", "2"), row(opposite(longest), "x", "-2")}, api.Unsat},
		{[]api.Lin{row(opposite(longest), "x", "2"), row(longest, "x", "-2")}, api.Unsat},
		{[]api.Lin{row(less, "x", "2"), row(opposite(less), "x", "-2")}, api.Sat},
		{[]api.Lin{row(less, "x", longest), row("-1", "x", opposite(longest))}, api.Unsat},
		{[]api.Lin{row(longest, "x", longest), row("-1", "x", opposite(longest))}, api.Sat},
		{[]api.Lin{row(less, "x", longest, "y", less), row(opposite(longest), "x", opposite(longest), "y", opposite(less))}, api.Unsat},
		{[]api.Lin{row("1", "x", longest, "y", less), row("-1", "x", opposite(longest), "y", opposite(less))}, api.Sat},
		{[]api.Lin{row("-1", "x", longest, "y", opposite(less)), row("-1", "y", longest, "x", opposite(less)), row("-1", "x", "-1"), row("-1", "y", "-1")}, api.Unsat},
		{[]api.Lin{row("-1", "x", "-1"), row("0", "x", longest, "y", "-1"), row("0", "y", longest, "z", "-1"), row("0", "z", longest, "u", "-1"), row(longest, "u", "1")}, api.Unsat},
		{[]api.Lin{row("-1", "x", "-1"), row("0", "x", longest, "y", "-1"), row("0", "y", longest, "z", "-1"), row("0", "z", longest, "u", "-1"), row(longest, "v", "1")}, api.Sat},
	})
	// The row that is more than longest has more digits than a row may have, so that no split is there.
	ask(t, []api.Lin{row(longest, "x", "1"), row(opposite(longest), "x", "-1"), row(longest, "y", "1"), row(opposite(longest), "y", "-1"), row("1", "z", "2", "x", "-1", "y", "-1"), row("-1", "z", "-2", "x", "1", "y", "1")}, enough)
	// A split would have a number of names that is too long: half of what stands here four times.
	ask(t, []api.Lin{row("1", "x", longest, "x", longest, "x", longest, "x", longest, "y", "2"), row("-1", "x", opposite(longest), "x", opposite(longest), "x", opposite(longest), "x", opposite(longest), "y", "-2")}, enough)
	// Numbers of a sum would have more digits than they may have.
	var chain []api.Lin
	for i := range 6 {
		chain = append(chain, row("0", nameOf(i), longest, nameOf(i+1), opposite(less)))
	}
	ask(t, append(chain, row("-1", nameOf(0), "-1"), row("0", nameOf(6), "1")), enough)
}

// TestDeep: P9.1: no refutation is deeper than MaxDepth: each of many names takes a split of its own.
func TestDeep(t *testing.T) {
	for _, names := range []int{20, 198, 199, 200, 201, 250} {
		all := api.Lin{K: "-1"}
		var l []api.Lin
		for i := range names {
			name := "n" + nameOf(i%20) + nameOf(i/20)
			l = append(l, row("1", name, "2"))
			all.C = append(all.C, api.Coef{Name: name, N: "-1"})
		}
		a := ask(t, append(l, all), enough)
		if names < api.MaxDepth && a.verdict != api.Unsat || names >= api.MaxDepth && a.verdict == api.Sat {
			t.Errorf("P9.1: %d names: %d", names, a.verdict)
		}
	}
}

// TestChecker: P9.4: what is told is checked by a small checker (that of these tests), which takes nothing else.
func TestChecker(t *testing.T) {
	l := rows("2 x <= 1\n -2 x <= -1")
	f := ask(t, l, enough).f
	sum := func(by ...string) api.Farkas { return api.Farkas{Sum: by} }
	split := func(x api.Lin, l ...api.Farkas) api.Farkas { return api.Farkas{Split: true, Row: x, L: l} }
	at0 := row("0", "x", "1")
	good, better := split(at0, sum("0", "1", "2"), sum("1", "0", "2")), split(at0, sum("0", "1", "2", "0"), sum("1", "0", "2"))
	if !refutes(l, f, 200) || !refutes(l, good, 2) || refutes(l, better, 2) {
		t.Errorf("P9.4: %v", f)
	}
	for i, x := range []api.Farkas{
		{}, sum("1", "1"), sum("0", "1", "2"), split(at0, f), split(at0, f.L[1], f.L[0]), split(at0, f.L[0], f.L[1], f.L[1]), split(row("1", "x", "1"), f.L...), split(row("0", "y", "1"), f.L...), split(row("00", "x", "1"), f.L...), split(row("0", "x", "1", "", "0"), f.L...),
		split(at0, sum("0", "-1", "-2"), f.L[1]), split(at0, sum("0", "01", "2"), f.L[1]), split(at0, sum("0", "1", "1"), f.L[1]), split(at0, f.L[0], sum("1", "0", "3")),
	} {
		if refutes(l, x, 200) {
			t.Errorf("P9.4: %d: %v", i, x)
		}
	}
	if refutes(rows("2 x <= 1\n -2 x <= 0"), f, 200) || refutes(l[:1], f, 200) || refutes(l, f, 1) {
		t.Error("P9.4")
	}
}
