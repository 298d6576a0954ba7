package farkas_test

import (
	"math/big"
	"slices"
	"strconv"
	"strings"
	"testing"

	"avow/api"
	"avow/farkas"
)

// TestCheckSum: P10.2, refutations that are no Split.
func TestCheckSum(t *testing.T) {
	l := rows("1 x <= 1\n-1 x <= -2")
	long := strings.Repeat("9", 4*api.MaxDigits)
	checkAll(t, []refutation{
		// No coefficients, K below 0.
		{l, sum("1", "1"), api.OK}, {l, sum("7", "7"), api.OK}, {l, sum(long, long), api.OK}, {rows("<= -1"), sum("1"), api.OK}, {rows("<= -1"), sum("5"), api.OK}, {rows("<= 3\n<= -1"), sum("0", "1"), api.OK}, {rows("<= 3\n<= -1"), sum("1", "4"), api.OK}, {rows("1 x -1 x <= -1"), sum("1"), api.OK}, {rows("0 x <= -1"), sum("1"), api.OK},
		{rows("2 x 3 y <= 0\n-1 x <= 0\n9 z <= 0\n-1 y <= -1"), sum("1", "2", "0", "3"), api.OK}, {rows("1 x 1 x <= 1\n-1 x <= -1"), sum("1", "2"), api.OK}, {append(l, row("z", "x", "1"))[:2], sum("1", "1"), api.OK}, {append(l, row("0", "x", "1")), sum("1", "1"), api.OK},
		{[]api.Lin{row("-" + longest)}, sum("1"), api.OK}, {[]api.Lin{row(longest, "x", longest), row("-"+longest, "x", "-"+longest), row("-1")}, sum(long, long, "1"), api.OK},
		// K of 0, or above it.
		{rows("1 x <= 0\n-1 x <= 0"), sum("1", "1"), api.ErrFarkas}, {rows("1 x <= 1\n-1 x <= 0"), sum("1", "1"), api.ErrFarkas}, {rows("<= 0"), sum("1"), api.ErrFarkas}, {rows("<= 1"), sum("1"), api.ErrFarkas}, {rows("<= -1"), sum("0"), api.ErrFarkas}, {rows("<= -1"), sum(), api.ErrFarkas}, {rows("<= 3\n<= -1"), sum("1", "3"), api.ErrFarkas}, {rows("2 x <= 1\n-2 x <= -1"), sum("1", "1"), api.ErrFarkas}, {[]api.Lin{row(longest)}, sum("1"), api.ErrFarkas},
		{nil, sum(), api.ErrFarkas}, {nil, api.Farkas{}, api.ErrFarkas}, {l, sum("0", "0"), api.ErrFarkas}, {l, sum(), api.ErrFarkas}, {l, api.Farkas{}, api.ErrFarkas},
		// Coefficients left.
		{l, sum("0", "1"), api.ErrFarkas}, {l, sum("1", "2"), api.ErrFarkas}, {l, sum("2", "3"), api.ErrFarkas}, {l, sum("3", "2"), api.ErrFarkas}, {l, sum("1"), api.ErrFarkas}, {rows("1 x <= -1"), sum("1"), api.ErrFarkas}, {rows("-1 x <= -1"), sum("1"), api.ErrFarkas}, {rows("1 x -1 y <= -1"), sum("1"), api.ErrFarkas}, {rows("1 x <= -1\n-1 y <= -1"), sum("1", "1"), api.ErrFarkas}, {rows("1 x <= -1\n-1 X <= -1"), sum("1", "1"), api.ErrFarkas}, {rows("1 x 1 a <= -1\n-1 x <= -1"), sum("1", "1"), api.ErrFarkas}, {rows("1 a 1 x <= -1\n-1 x <= -1"), sum("1", "1"), api.ErrFarkas},
		// Sums that aren't told.
		{l, sum("1", "1", "0"), api.ErrFarkas}, {l, sum("1", "1", "1"), api.ErrFarkas}, {rows("<= -1"), sum("1", "0"), api.ErrFarkas}, {nil, sum("1"), api.ErrFarkas}, {rows("1 x <= 1\n1 x <= 0"), sum("-1", "1"), api.ErrFarkas}, {rows("<= 1"), sum("-1"), api.ErrFarkas}, {rows("<= 1\n<= -1"), sum("-1", "1"), api.ErrFarkas}, {l, sum("01", "1"), api.ErrFarkas}, {l, sum("1", "+1"), api.ErrFarkas}, {l, sum("1", "x"), api.ErrFarkas}, {append(l, row("1")), sum("1", "1", ""), api.ErrFarkas}, {append(l, row("1")), sum("1", "1", "-0"), api.ErrFarkas}, {rows("<= -1"), sum(long), api.OK}, {rows("<= -1"), sum(long + "9"), api.ErrFarkas}, {rows("<= -1"), sum("1" + strings.Repeat("0", 4*api.MaxDigits)), api.ErrFarkas},
		// What is beside a Sum says nothing.
		{l, api.Farkas{Sum: []string{"1", "1"}, Row: row("q", "", "")}, api.OK}, {l, api.Farkas{Sum: []string{"1", "1"}, Row: row("0", "x", "1"), L: make([]api.Farkas, 2)}, api.OK}, {l, api.Farkas{Sum: []string{"1", "1"}, L: make([]api.Farkas, 5)}, api.OK}, {l, api.Farkas{Sum: []string{"1", "1"}, L: []api.Farkas{split(row("x"))}}, api.OK}, {l, api.Farkas{Sum: []string{"1", "1"}, L: []api.Farkas{deepest(300, 0)}}, api.OK},
		{l, api.Farkas{Row: row("0", "x", "1"), L: []api.Farkas{sum("1", "1"), sum("1", "1")}}, api.ErrFarkas}, {l, api.Farkas{Sum: []string{"1"}, Row: row("0", "x", "1"), L: []api.Farkas{sum("1", "1"), sum("1", "1")}}, api.ErrFarkas}, {l, api.Farkas{Sum: []string{"1", "2"}, Row: row("-1")}, api.ErrFarkas},
	})
}

// TestCheckSplit: P10.2, Splits.
func TestCheckSplit(t *testing.T) {
	l, half := rows("2 x <= 1\n-2 x <= -1"), row("0", "x", "1")
	low, high := sum("0", "1", "2"), sum("1", "0", "2")
	clash := rows("1 x <= 1\n-1 x <= -2")
	leaf := sum("1", "1")
	checkAll(t, []refutation{
		{l, split(half, low, high), api.OK}, {clash, split(half, leaf, leaf), api.OK}, {clash, split(row("5"), leaf, leaf), api.OK}, {clash, split(row("-5", "y", "3"), leaf, leaf), api.OK},
		// One side, none, the other way round, too many.
		{l, split(half, high, low), api.ErrFarkas}, {l, split(half, low, low), api.ErrFarkas}, {l, split(half, high, high), api.ErrFarkas}, {l, split(half), api.ErrFarkas}, {l, split(half, low), api.ErrFarkas}, {l, split(half, high), api.ErrFarkas}, {l, split(half, low, high, low), api.ErrFarkas}, {l, split(half, low, high, sum()), api.ErrFarkas}, {l, split(half, sum(), low, high), api.ErrFarkas}, {l, split(half, low, high, low, high), api.ErrFarkas},
		{clash, split(half), api.ErrFarkas}, {clash, split(half, leaf), api.ErrFarkas}, {clash, split(half, leaf, leaf, leaf), api.ErrFarkas}, {clash, split(half, leaf, sum()), api.ErrFarkas}, {clash, split(half, sum(), leaf), api.ErrFarkas}, {clash, api.Farkas{Split: true}, api.ErrFarkas}, {nil, api.Farkas{Split: true}, api.ErrFarkas},
		// Another row.
		{l, split(row("1", "x", "1"), low, high), api.ErrFarkas}, {l, split(row("-1", "x", "1"), low, high), api.ErrFarkas}, {l, split(row("0", "y", "1"), low, high), api.ErrFarkas}, {l, split(row("0", "x", "-1"), low, high), api.ErrFarkas}, {l, split(row("-1", "x", "-1"), high, low), api.OK}, {l, split(row("0", "x", "-1"), high, low), api.ErrFarkas}, {l, split(row("0", "x", "1", "y", "0"), low, high), api.OK}, {l, split(row("0", "x", "2", "x", "-1"), low, high), api.OK}, {l, split(row("0", "x", "2"), sum("0", "1", "1"), sum("1", "0", "1")), api.ErrFarkas}, {rows("3 x <= 2\n-3 x <= -1"), split(half, sum("0", "1", "3"), sum("1", "0", "3")), api.OK},
		// The opposite is at most -K - 1: no less, and no more.
		{rows("1 x <= 5\n-1 x <= -5"), split(row("4", "x", "1"), sum("0", "1", "1"), sum("1", "0", "1")), api.ErrFarkas}, {rows("1 x <= 4\n-1 x <= -5"), split(row("4", "x", "1"), sum("0", "1", "1"), sum("1", "0", "1")), api.OK}, {rows("1 x <= 4\n-1 x <= -4"), split(row("4", "x", "1"), sum("0", "1", "1"), sum("1", "0", "1")), api.ErrFarkas}, {rows("1 x <= -8\n-1 x <= 7"), split(row("-8", "x", "1"), sum("0", "1", "1"), sum("1", "0", "1")), api.OK}, {rows("1 x <= -7\n-1 x <= 7"), split(row("-8", "x", "1"), sum("0", "1", "1"), sum("1", "0", "1")), api.ErrFarkas},
		{nil, split(row("-1"), sum("1"), sum("1")), api.ErrFarkas}, {nil, split(row("0"), sum("1"), sum("1")), api.ErrFarkas}, {rows("<= -1"), split(row("0"), sum("1"), sum("0", "1")), api.OK}, {rows("<= -1"), split(row("-1"), sum("0", "1"), sum("1")), api.OK}, {rows("<= -1"), split(row("-1"), sum("0", "1"), sum("0", "1")), api.ErrFarkas},
		{rows("1 x 1 y <= 3\n-1 x -1 y <= -4"), split(row("3", "x", "1", "y", "1"), sum("0", "1", "1"), sum("1", "0", "1")), api.OK}, {rows("1 x -1 y <= 3\n-1 x 1 y <= -4"), split(row("3", "x", "1", "y", "-1"), sum("0", "1", "1"), sum("1", "0", "1")), api.OK}, {rows("1 x 1 y <= 3\n-1 x -1 y <= -4"), split(row("3", "x", "1", "y", "-1"), sum("0", "1", "1"), sum("1", "0", "1")), api.ErrFarkas},
		// Numbers of sides: as many as there are rows and sides ahead.
		{l, split(half, sum("0", "1", "2", "0"), high), api.ErrFarkas}, {l, split(half, low, sum("1", "0", "2", "0")), api.ErrFarkas}, {l, split(half, sum("0", "1"), high), api.ErrFarkas}, {l, split(half, sum("2", "0", "1"), high), api.ErrFarkas}, {l, split(half, sum("0", "1", "-2"), high), api.ErrFarkas}, {l, split(half, low, sum("1", "0", "02")), api.ErrFarkas}, {l, split(half, low, sum("1", "0", "")), api.ErrFarkas},
		// What is beside a Split says nothing.
		{l, api.Farkas{Split: true, Sum: []string{"1"}, Row: half, L: []api.Farkas{low, high}}, api.OK}, {l, api.Farkas{Split: true, Sum: []string{"x", "", "-1", "1", "1"}, Row: half, L: []api.Farkas{low, high}}, api.OK}, {clash, api.Farkas{Split: true, Sum: []string{"1", "1"}}, api.ErrFarkas}, {clash, api.Farkas{Split: true, Sum: []string{"1", "1"}, Row: half}, api.ErrFarkas}, {clash, api.Farkas{Split: true, Sum: []string{"1", "1"}, Row: half, L: []api.Farkas{leaf}}, api.ErrFarkas}, {clash, api.Farkas{Split: true, Sum: []string{"1", "1"}, Row: half, L: []api.Farkas{leaf, sum()}}, api.ErrFarkas}, {clash, api.Farkas{Split: true, Sum: []string{"1", "1"}, Row: half, L: []api.Farkas{sum(), leaf}}, api.ErrFarkas}, {clash, api.Farkas{Split: true, Sum: []string{"1", "1"}, Row: row("q"), L: []api.Farkas{leaf, leaf}}, api.ErrFarkas},
	})
}

// TestCheckNested: P10.2: sides stand behind the rows in the order of their splits, each side's own alone.
func TestCheckNested(t *testing.T) {
	// x and y are each from 0 to 1; x and y together are odd, and x is y.
	l := rows("1 x 1 y <= 1\n-1 x -1 y <= -1\n1 x -1 y <= 0\n-1 x 1 y <= 0")
	x, y := row("0", "x", "1"), row("0", "y", "1")
	// x at most 0: by y at most 0, both together are at most 0; by y at least 1, x is at least 1.
	low := split(y, sum("0", "1", "0", "0", "1", "1"), sum("0", "0", "0", "1", "1", "1"))
	// x at least 1: by y at most 0, x is at most 0; by y at least 1, both together are at least 2.
	high := split(y, sum("0", "0", "1", "0", "1", "1"), sum("1", "0", "0", "0", "1", "1"))
	outer := rows("3 x <= 2\n-3 x <= -1\n1 z <= 0")
	checkAll(t, []refutation{
		{l, split(x, low, high), api.OK}, {l, split(x, high, low), api.ErrFarkas}, {l, split(x, low, low), api.ErrFarkas}, {l, split(x, high, high), api.ErrFarkas}, {l, split(x, low, split(y, high.L[1], high.L[0])), api.ErrFarkas}, {l, split(x, split(y, low.L[1], low.L[0]), high), api.ErrFarkas},
		{l, split(y, split(x, low.L[0], high.L[0]), split(x, low.L[1], high.L[1])), api.OK}, {l, low, api.ErrFarkas}, {l, split(y, low, high), api.ErrFarkas},
		{l, split(x, split(row("0", "y", "0"), low.L[0], low.L[1]), high), api.ErrFarkas}, {l, split(x, split(row("0", "", "1"), low.L...), high), api.ErrFarkas}, {l, split(x, split(y, low.L[0]), high), api.ErrFarkas}, {l, split(x, low, split(y, high.L[0], high.L[1], high.L[1])), api.ErrFarkas},
		// Which of two sides is taken: the first split's stands ahead.
		{outer, split(row("0", "x", "1"), split(row("7", "z", "1"), sum("0", "1", "0", "3"), sum("0", "1", "0", "3")), sum("1", "0", "0", "3")), api.OK}, {outer, split(row("0", "x", "1"), split(row("7", "z", "1"), sum("0", "1", "0", "0", "3"), sum("0", "1", "0", "3")), sum("1", "0", "0", "3")), api.ErrFarkas}, {outer, split(row("7", "z", "1"), split(row("0", "x", "1"), sum("0", "1", "0", "0", "3"), sum("1", "0", "0", "0", "3")), sum("0", "0", "1", "1")), api.OK}, {outer, split(row("7", "z", "1"), split(row("0", "x", "1"), sum("0", "1", "0", "3"), sum("1", "0", "0", "3")), sum("0", "0", "1", "1")), api.ErrFarkas},
		// A side ends with its split: the second side has the opposite alone, and nothing from within the first.
		{outer, split(row("7", "z", "1"), split(row("0", "x", "1"), sum("0", "1", "0", "0", "3"), sum("1", "0", "0", "0", "3")), sum("0", "0", "1", "1", "0")), api.ErrFarkas}, {outer, split(row("7", "z", "1"), split(row("0", "x", "1"), sum("0", "1", "0", "0", "3"), sum("1", "0", "0", "0", "3")), sum("0", "0", "1", "0", "1")), api.ErrFarkas},
	})
}

// TestCheckRows: P10.2: ErrLin ahead of all else; what is no row in a Split is ErrFarkas.
func TestCheckRows(t *testing.T) {
	right := rows("1 x <= 1\n-1 x <= -2\n2 y -1 a <= 5")
	leaf, half := sum("1", "1"), row("0", "x", "1")
	all := []api.Farkas{leaf, sum("1"), sum("x"), sum("1", "1", "1", "1", "1", "1"), {}, split(half, leaf, leaf), split(half), split(row("q"), leaf, leaf), deepest(api.MaxDepth+1, 0)}
	for _, x := range noRows() {
		for at := range len(right) + 1 {
			l := slices.Insert(slices.Clone(right), at, x)
			for _, f := range all {
				if e := farkas.Check(l, f); e != api.ErrLin {
					t.Fatalf("P10.2: %.500v by %.500v: %v", l, f, e)
				}
			}
		}
		checkAll(t, []refutation{{[]api.Lin{x}, leaf, api.ErrLin}, {[]api.Lin{x, x}, split(half, leaf, leaf), api.ErrLin}, {right, split(x, leaf, leaf), api.ErrFarkas}, {right, split(half, split(x, leaf, leaf), leaf), api.ErrFarkas}, {right, split(half, leaf, split(x, leaf, leaf)), api.ErrFarkas}})
	}
	for _, x := range oddRows() {
		want := api.OK
		if x.K == longest {
			want = api.ErrFarkas // TestCheckLong says why.
		}
		checkAll(t, []refutation{{append(slices.Clone(right), x), leaf, api.OK}, {append(slices.Clone(right), x), split(half, leaf, leaf), api.OK}, {right, split(x, leaf, leaf), want}})
	}
}

// TestCheckLong: P10.2: numbers of MaxDigits digits; of a K of nines the opposite's has a digit more, so that it is no row: no sum with it is told.
func TestCheckLong(t *testing.T) {
	n, _ := new(big.Int).SetString(longest, 10)
	less := new(big.Int).Sub(n, big.NewInt(1)).String()
	leaf, clash := sum("1", "1"), rows("1 x <= 1\n-1 x <= -2")
	first, second := sum("0", "1", "1"), sum("1", "0", "1")
	around := func(k, next string) []api.Lin { return []api.Lin{row(k, "x", "1"), row(next, "x", "-1")} }
	checkAll(t, []refutation{
		{around(less, "-"+longest), split(row(less, "x", "1"), first, second), api.OK}, {around("-"+longest, less), split(row("-"+longest, "x", "1"), first, second), api.OK}, {around("-"+longest, longest), split(row("-"+longest, "x", "1"), first, second), api.ErrFarkas}, {around(longest, "-"+longest), split(row(less, "x", "1"), first, second), api.ErrFarkas},
		{clash, split(row(less, "x", "1"), leaf, leaf), api.OK}, {clash, split(row("-"+longest, "x", "1"), leaf, leaf), api.OK}, {clash, split(row("-"+less, "x", "1"), leaf, leaf), api.OK}, {clash, split(row("1"+longest[1:], "x", "1"), leaf, leaf), api.OK},
		{clash, split(row(longest, "x", "1"), leaf, leaf), api.ErrFarkas}, {clash, split(row(longest), leaf, leaf), api.ErrFarkas}, {clash, split(row("0"), leaf, split(row(longest), leaf, leaf)), api.ErrFarkas}, {clash, split(row("0"), split(row(longest), leaf, leaf), leaf), api.ErrFarkas}, {clash, split(row(longest), leaf, split(row("0"), leaf, leaf)), api.ErrFarkas},
		{[]api.Lin{row(longest, "x", "1"), row("-1")}, split(row(longest, "x", "1"), sum("0", "1"), sum("1", "0", "1")), api.ErrFarkas},
		{clash, split(row(longest[1:], "x", "1"), leaf, leaf), api.OK}, {clash, split(row("0", "x", longest), leaf, leaf), api.OK}, {clash, split(row("0", "x", "-"+longest), leaf, leaf), api.OK},
		{[]api.Lin{row("-1", "x", longest), row("0", "x", "-"+longest)}, split(row("-1", "x", longest), sum("0", "1", "1"), sum("1", "0", "1")), api.OK},
	})
}

// deepest tells a refutation of rows that the sum 1, 1 refutes, so many parts deep: its way down goes by first sides (0), by second ones (1), or by turns (2).
func deepest(n, way int) api.Farkas {
	leaf := sum("1", "1")
	f := leaf
	for i := range n - 1 {
		if way == 0 || way == 2 && i%2 == 0 {
			f = split(row("0", "x", "1"), f, leaf)
		} else {
			f = split(row("0", "x", "1"), leaf, f)
		}
	}
	return f
}

// TestCheckDepth: P10.2: MaxDepth, and what is deeper.
func TestCheckDepth(t *testing.T) {
	l := rows("1 x <= 1\n-1 x <= -2")
	leaf, half := sum("1", "1"), row("0", "x", "1")
	for way := range 3 {
		for _, n := range []int{1, 2, 3, api.MaxDepth - 1, api.MaxDepth} {
			checkAll(t, []refutation{{l, deepest(n, way), api.OK}})
		}
		for _, n := range []int{api.MaxDepth + 1, api.MaxDepth + 2, 2 * api.MaxDepth, 1000} {
			checkAll(t, []refutation{{l, deepest(n, way), api.ErrFarkas}})
		}
		if e := farkas.Check(l, deepest(10000, way)); e != api.ErrFarkas {
			t.Errorf("P10.2: 10000 deep: %v", e)
		}
		farkas.Check(l, deepest(1<<16, way)) // No more is promised of it than that this ends.
		checkAll(t, []refutation{
			{l, split(half, deepest(api.MaxDepth-1, way), deepest(api.MaxDepth-1, way)), api.OK}, {l, split(half, deepest(api.MaxDepth-1, way), deepest(api.MaxDepth, way)), api.ErrFarkas}, {l, split(half, deepest(api.MaxDepth, way), deepest(api.MaxDepth-1, way)), api.ErrFarkas},
		})
	}
	// What is beside a Sum isn't gone into.
	last := api.Farkas{Sum: []string{"1", "1"}, L: []api.Farkas{deepest(10, 0), deepest(1000, 1)}}
	for range api.MaxDepth - 1 {
		last = split(half, last, leaf)
	}
	checkAll(t, []refutation{{l, last, api.OK}, {l, split(half, last, leaf), api.ErrFarkas}})
	// Each split's row is there for the sum at the end: as many numbers as rows, and one more.
	ones := strings.Split("1 1"+strings.Repeat(" 0", api.MaxDepth), " ")
	for more, want := range []api.Errno{api.OK, api.ErrFarkas} {
		f := sum(ones[:api.MaxDepth+1+more]...)
		for range api.MaxDepth - 1 {
			f = split(half, leaf, f)
		}
		checkAll(t, []refutation{{l, f, want}})
	}
}

// TestCheckWide: P10.2: every side is looked at, the last one too, and lists may be shared.
func TestCheckWide(t *testing.T) {
	l, half := rows("1 x <= 1\n-1 x <= -2"), row("0", "x", "1")
	f := sum("1", "1")
	for range 12 {
		f = split(half, f, f)
	}
	checkAll(t, []refutation{{l, f, api.OK}})
	var alter func(f api.Farkas, bits, left int) api.Farkas
	alter = func(f api.Farkas, bits, left int) api.Farkas {
		if left == 0 {
			return sum("1", "2")
		}
		f.L = slices.Clone(f.L)
		f.L[bits&1] = alter(f.L[bits&1], bits>>1, left-1)
		return f
	}
	for _, bits := range []int{0, 1, 77, 1 << 11, 1<<12 - 1} {
		checkAll(t, []refutation{{l, alter(f, bits, 12), api.ErrFarkas}})
	}
	// Many names, each of them split: just the last sides use all of them.
	var many []api.Lin
	all := row("-1")
	for i := range api.MaxDepth - 1 {
		name := "n" + strconv.Itoa(i)
		many = append(many, row("1", name, "2"))
		all.C = append(all.C, api.Coef{Name: name, N: "-1"})
	}
	many = append(many, all)
	checkAll(t, []refutation{{many, halves(many), api.OK}, {many[1:], halves(many), api.ErrFarkas}})
}

// halves refutes rows by which each name twice is at most 1, and (the last row) all together are at least 1.
func halves(l []api.Lin) api.Farkas {
	last := slices.Repeat([]string{"0"}, len(l)-1)
	f := sum(append(append(last, "1"), slices.Repeat([]string{"1"}, len(l)-1)...)...)
	for i, x := range slices.Backward(l[:len(l)-1]) {
		by := slices.Repeat([]string{"0"}, len(l)+i+1)
		by[i], by[len(l)+i] = "1", "2"
		f = split(row("0", x.C[0].Name, "1"), f, sum(by...))
	}
	return f
}

// TestExample: the chapter's.
func TestExample(t *testing.T) {
	l := rows("1 x <= 1\n-1 x <= -2")
	if got, ok := askSum(t, l, []string{"1", "1"}); !ok || got.K != "-1" || len(got.C) != 0 {
		t.Errorf("P10.1: %v, %v", got, ok)
	}
	checkAll(t, []refutation{{l, sum("1", "1"), api.OK}})
}
