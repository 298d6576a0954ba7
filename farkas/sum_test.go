package farkas_test

import (
	"slices"
	"strconv"
	"strings"
	"testing"

	"avow/api"
	"avow/farkas"
)

// noNumbers: texts that aren't the right text of a number.
func noNumbers() []string {
	return []string{"", "-", "+", "+1", "01", "-01", "00", "-00", "-0", " 1", "1 ", "1\n", "x", "1x", "x1", "0x1", "1_0", "1.0", "1e3", "--1", "1-", "1-1", "\u0661", "\uff11", "\xff", "1\x00"}
}

// noRows: what is no row, one thing being wrong in each.
func noRows() []api.Lin {
	out := []api.Lin{{}, {C: []api.Coef{{}}, K: "1"}}
	for _, text := range append(noNumbers(), longest+"0", "-"+longest+"0", "1"+strings.Repeat("0", api.MaxDigits), "-1"+strings.Repeat("0", api.MaxDigits), strings.Repeat("7", 1<<20)) {
		out = append(out, row(text), row(text, "x", "1"), row("0", "x", text), row("0", "y", "1", "x", text), row("0", "x", text, "y", "1"), row("0", "x", "1", "x", text), row("0", "x", "1", "y", text, "z", "1"))
	}
	for _, name := range []string{"", strings.Repeat("n", api.MaxKey+1), strings.Repeat("\u00e9", api.MaxKey/2) + "n", strings.Repeat("n", 1<<20)} {
		out = append(out, row("0", name, "1"), row("0", name, "0"), row("0", "x", "1", name, "1"), row("0", name, "1", "x", "1"), row("0", "x", "1", name, "1", "y", "1"))
	}
	return out
}

// oddRows: what is a row, at the edges.
func oddRows() []api.Lin {
	name := strings.Repeat("n", api.MaxKey)
	one := "1" + strings.Repeat("0", api.MaxDigits-1)
	return []api.Lin{
		row("0"), row("1"), row("-1"), row("10"), row("-10"), row(longest), row("-" + longest), row(one), row("-" + one),
		row("0", "x", "0"), row("0", "x", longest), row("0", "x", "-"+longest), row("0", "x", one, "y", "-"+one), row("-"+longest, "x", "-"+longest, "x", "-"+longest), row("9223372036854775808", "x", "-9223372036854775809"),
		row("0", name, "1"), row("-"+longest, name, "-"+longest), row("0", strings.Repeat("\u00e9", api.MaxKey/2), "1"), row("0", strings.Repeat("\xff", api.MaxKey), "1"),
		row("0", " ", "1"), row("0", "\x00", "1"), row("0", "(f 3)", "1"), row("0", "x", "1", "x", "-1"),
	}
}

// TestRow: P10.1.
func TestRow(t *testing.T) {
	for _, x := range noRows() {
		if askRow(t, x) {
			t.Errorf("P10.1: a row: %.500v", x)
		}
	}
	for _, x := range oddRows() {
		if !askRow(t, x) {
			t.Errorf("P10.1: no row: %.500v", x)
		}
	}
	many := row("5")
	for i := range 5000 {
		many.C = append(many.C, api.Coef{Name: "n" + strconv.Itoa(i%700), N: strconv.Itoa(i - 2500)})
	}
	if !askRow(t, many) {
		t.Error("P10.1: many coefficients")
	}
	many.C[4999].N = "+1"
	if askRow(t, many) {
		t.Error("P10.1: many coefficients, the last one wrong")
	}
}

// TestSum: P10.1, what is told.
func TestSum(t *testing.T) {
	l := rows("1 x <= 1\n-1 x <= -2\n2 y -1 a 3 y <= 5")
	long := strings.Repeat("9", 4*api.MaxDigits)
	nines := "9" + strings.Repeat("0", 4*api.MaxDigits-1)
	for i, z := range []struct {
		l    []api.Lin
		by   []string
		want api.Lin
	}{
		// Fewer numbers than rows, and as many.
		{l, nil, row("0")}, {l, []string{}, row("0")}, {l, []string{"0"}, row("0")}, {l, []string{"3"}, row("3", "x", "3")}, {l, []string{"0", "2"}, row("-4", "x", "-2")}, {l, []string{"2", "1"}, row("0", "x", "1")},
		{l, []string{"2", "0", "1"}, row("7", "a", "-1", "x", "2", "y", "5")}, {l, []string{"0", "0", "0"}, row("0")}, {l, []string{"0", "0", "2"}, row("10", "a", "-2", "y", "10")}, {l, []string{"1", "2", "3"}, row("12", "a", "-3", "x", "-1", "y", "15")},
		// No rows.
		{nil, nil, row("0")}, {[]api.Lin{}, []string{}, row("0")},
		// Sums that come to 0 are left out.
		{l, []string{"1", "1"}, row("-1")}, {l, []string{"5", "5", "1"}, row("0", "a", "-1", "y", "5")}, {rows("1 x -1 x <= 3"), []string{"2"}, row("6")}, {rows("0 x <= 3\n0 y 1 z <= 1"), []string{"2", "1"}, row("7", "z", "1")}, {rows("1 x 2 y <= 0\n-2 x -1 y <= 0\n1 x -1 y <= 0"), []string{"1", "1", "1"}, row("0")},
		// What came to 0 comes back.
		{rows("1 x <= 0\n-1 x <= 0\n7 x <= 0"), []string{"1", "1", "1"}, row("0", "x", "7")}, {rows("1 x -1 x 4 x <= 0"), []string{"3"}, row("0", "x", "12")},
		// A name that stands twice in a row, or in two.
		{rows("1 x 1 x 1 x <= 1"), []string{"4"}, row("4", "x", "12")}, {rows("1 x 2 y 3 x <= 1\n5 y -3 x <= 1"), []string{"1", "1"}, row("2", "x", "1", "y", "7")},
		// Rows without coefficients.
		{rows("<= -4\n<= 3"), []string{"1", "1"}, row("-1")}, {rows("<= -4\n<= 3"), []string{"3", "4"}, row("0")},
		// In order of names' bytes.
		{[]api.Lin{row("0", "b", "1", "a", "2", "B", "3", "aa", "4", "\u00e9", "5", "\xff", "6", "a\x00", "7", "10", "8", "9", "9", "_", "10", "z", "11")}, []string{"1"}, row("0", "10", "8", "9", "9", "B", "3", "_", "10", "a", "2", "a\x00", "7", "aa", "4", "b", "1", "z", "11", "\u00e9", "5", "\xff", "6")},
		{[]api.Lin{row("0", "c", "1"), row("0", "b", "1"), row("0", "d", "1"), row("0", "a", "1")}, []string{"4", "3", "2", "1"}, row("0", "a", "1", "b", "3", "c", "4", "d", "2")},
		// Long numbers.
		{l, []string{long}, row(long, "x", long)}, {l, []string{nines, nines}, row("-" + nines)}, {l, []string{long, "0", "0"}, row(long, "x", long)}, {rows("1 x <= 9223372036854775807\n1 x <= 1"), []string{"1", "1"}, row("9223372036854775808", "x", "2")},
		{[]api.Lin{row("-"+longest, "x", longest)}, []string{"10"}, row("-"+longest+"0", "x", longest+"0")},
	} {
		if got, ok := askSum(t, z.l, z.by); !ok || !alike(got, z.want) {
			t.Errorf("P10.1: %d: the sum of %.500v by %.500v: %.500v, %v", i, z.l, z.by, got, ok)
		}
	}
	x := row("-"+longest, "x", longest, "y", "-"+longest, "x", longest)
	if got, ok := askSum(t, []api.Lin{x, x}, []string{long, long}); !ok || len(got.K) != 1+5*api.MaxDigits+1 || len(got.C) != 2 {
		t.Errorf("P10.1: the longest numbers: %v", ok)
	}
}

// isNothing tells whether Sum told zeros and false.
func isNothing(x api.Lin, ok bool) bool { return !ok && x.K == "" && len(x.C) == 0 }

// TestSumOfNoNumbers: P10.1: zeros and false of numbers that aren't right, or too many.
func TestSumOfNoNumbers(t *testing.T) {
	l := rows("1 x <= 1\n-1 x <= -2\n2 y -1 a 3 y <= 5")
	long := strings.Repeat("9", 4*api.MaxDigits)
	wrong := append(noNumbers(), "-1", "-7", "-9223372036854775808", "-"+long, "-"+long[1:], long+"9", "1"+strings.Repeat("0", 4*api.MaxDigits), "0"+long[1:], strings.Repeat("7", 1<<20))
	for _, text := range wrong {
		for _, by := range [][]string{{text}, {text, "1"}, {"1", text}, {"1", text, "1"}, {"0", "0", text}, {"1", "1", text}, {text, text, text}} {
			if !isNothing(askSum(t, l, by)) {
				t.Errorf("P10.1: by %.500q", by)
			}
		}
	}
	for n := range 5 {
		for more := range 4 {
			for _, text := range []string{"0", "1", "x"} {
				by := slices.Repeat([]string{text}, n+1+more)
				if !isNothing(askSum(t, slices.Concat(l, l)[:n], by)) {
					t.Errorf("P10.1: %d rows by %q", n, by)
				}
			}
		}
	}
}

// TestSumOfNoRows: P10.1: zeros and false, wherever what is no row stands, and however many times it is taken.
func TestSumOfNoRows(t *testing.T) {
	right := rows("1 x <= 1\n-1 x <= -2\n2 y -1 a 3 y <= 5")
	for _, x := range noRows() {
		for at := range len(right) + 1 {
			l := slices.Insert(slices.Clone(right), at, x)
			for _, by := range [][]string{nil, {"1"}, {"0", "0", "0", "0"}, {"1", "1", "1", "1"}, {"0", "1", "0"}} {
				if !isNothing(farkas.Sum(l, by)) {
					t.Fatalf("P10.1: %.500v by %q", l, by)
				}
			}
		}
		if !isNothing(askSum(t, []api.Lin{x}, nil)) || !isNothing(askSum(t, []api.Lin{x}, []string{"0"})) || !isNothing(askSum(t, []api.Lin{x, x}, []string{"1"})) {
			t.Errorf("P10.1: the sum of %.500v", x)
		}
	}
	for _, x := range oddRows() {
		if _, ok := askSum(t, []api.Lin{x, right[0], x}, []string{"3", "0", "4"}); !ok {
			t.Errorf("P10.1: no sum of %.500v", x)
		}
	}
}

// TestSumOfMany: P10.1: many rows and names.
func TestSumOfMany(t *testing.T) {
	var l []api.Lin
	var by []string
	for i := range 2000 {
		x := row(strconv.Itoa(i%13 - 6))
		for j := range 20 {
			x.C = append(x.C, api.Coef{Name: "n" + strconv.Itoa((i*7+j*11)%300), N: strconv.Itoa((i+j)%9 - 4)})
		}
		l, by = append(l, x), append(by, strconv.Itoa(i%5))
	}
	if got, ok := askSum(t, l, by); !ok || len(got.C) < 100 {
		t.Errorf("P10.1: many rows: %.500v, %v", got, ok)
	}
	if _, ok := askSum(t, l, append(by, "0")); ok {
		t.Error("P10.1: a number too many")
	}
}
