package lia

import (
	"math"
	"math/rand"
	"reflect"
	"slices"
	"strconv"
	"testing"

	"avow/api"
)

// maker makes boxes within P9.2's bounds.
type maker struct{ *rand.Rand }

func newMaker(seed int64) maker { return maker{rand.New(rand.NewSource(seed))} }

// within tells a number from -most to most, often one at the edge.
func (m maker) within(most int) int {
	if m.Intn(4) == 0 {
		return most * (1 - 2*m.Intn(2))
	}
	return m.Intn(2*most+1) - most
}

// bounds tells a box of so many names, with bounds of at most so much.
func (m maker) bounds(names, most int) box {
	var b box
	for range names {
		low, high := -most, most
		if m.Intn(3) == 0 {
			low, high = m.within(most), m.within(most)
			if low > high && m.Intn(20) > 0 {
				low, high = high, low
			}
		}
		b.low, b.high = append(b.low, low), append(b.high, high)
	}
	return b
}

// numbers tells numbers by names, of a kind.
func (m maker) numbers(names, most int) []int {
	out := make([]int, names)
	kind, factor := m.Intn(5), 1+m.Intn(most/2)
	for i := range out {
		switch kind {
		case 0: // Much alike: few sums are near to one another.
			out[i] = most - m.Intn(3)
		case 1: // They share a divisor.
			out[i] = m.within(most/factor) * factor
		case 2:
			out[i] = m.Intn(2)*most - m.Intn(2)
		default:
			out[i] = m.within(most)
		}
	}
	return out
}

// fill adds rows to a box until there are so many with its bounds: some alone, others in pairs that leave little room between them.
func (m maker) fill(b box, rows, most int) box {
	k := min(most, 99)
	for left := rows - 2*len(b.low); left > 0; left-- {
		x := plain{m.numbers(len(b.low), most), m.within(k)}
		b.rows = append(b.rows, x)
		if left > 1 && m.Intn(2) == 0 {
			left--
			y := plain{make([]int, len(x.n)), max(-k, min(k, m.Intn(3)-x.k))}
			for i, n := range x.n {
				y.n[i] = -n
			}
			b.rows = append(b.rows, y)
		}
	}
	return b
}

// checkBox holds the verdict of a box against what trying all numbers tells.
func checkBox(t *testing.T, b box, mixed bool) int {
	t.Helper()
	l := b.given(mixed)
	want := api.Unsat
	if b.some() {
		want = api.Sat
	}
	a := ask(t, l, enough)
	if a.verdict != want {
		t.Fatalf("P9.2: %v: %d, not %d", l, a.verdict, want)
	}
	return want
}

// TestBoxes: P9.2: few names, within its bounds and at them.
func TestBoxes(t *testing.T) {
	for _, x := range []struct{ names, rows, bound, most, count int }{
		{0, 4, 0, 99, 20}, {1, 3, 20, 99, 300}, {1, 12, 20, 99, 300},
		{2, 5, 20, 9, 600}, {2, 6, 20, 99, 600}, {2, 12, 20, 99, 600},
		{3, 7, 20, 9, 300}, {3, 8, 20, 99, 600}, {3, 9, 3, 9, 600}, {3, 12, 20, 99, 300},
		{4, 9, 5, 99, 300}, {4, 10, 20, 99, 100}, {4, 12, 20, 99, 100}, {4, 12, 4, 9, 300},
		{5, 11, 3, 99, 300}, {5, 12, 20, 99, 12}, {5, 12, 3, 99, 300}, {5, 12, 4, 9, 100},
		{6, 12, 3, 99, 50}, {6, 12, 20, 99, 3},
	} {
		m := newMaker(int64(1000*x.names + 10*x.rows + x.most))
		var counts [3]int
		for range x.count {
			counts[checkBox(t, m.fill(m.bounds(x.names, x.bound), x.rows, x.most), m.Intn(2) == 0)]++
		}
		if x.names > 1 && x.names < 6 && counts[api.Sat]*counts[api.Unsat] == 0 {
			t.Errorf("%v: verdicts %v", x, counts)
		}
	}
}

// TestRepeated: P9.2: names that stand many times in a row are there more than two digits' times.
func TestRepeated(t *testing.T) {
	for _, x := range []struct{ names, rows, most, count int }{{2, 12, 3000, 60}, {3, 12, 3000, 60}, {4, 12, 3000, 20}, {5, 12, 1000, 4}} {
		m := newMaker(int64(x.names))
		for range x.count {
			checkBox(t, m.fill(m.bounds(x.names, 20), x.rows, x.most), false)
		}
	}
}

// TestHard: P9.2: rows that hold of fractions, and of no whole numbers, far and wide.
func TestHard(t *testing.T) {
	ends := func(names int) box {
		return box{low: slices.Repeat([]int{-20}, names), high: slices.Repeat([]int{20}, names)}
	}
	between := func(low, high int, n ...int) []plain {
		opposite := slices.Clone(n)
		for i := range opposite {
			opposite[i] = -n[i]
		}
		return []plain{{n, high}, {opposite, -low}}
	}
	for _, rows := range [][]plain{
		between(49, 49, 98, 98, 98, 98, 97),
		between(24, 49, 98, 98, 98, 98, 97),
		between(1, 1, 6, 12, 18, 24, 30),
		between(1, 5, 6, 12, 18, 24, 30),
		between(50, 50, 99, 99, 99, 99, 98),
		between(31, 33, 64, 64, -64, 64, 1),
		between(44, 44, 89, 97, 83, 79, 71),
		slices.Concat(between(7, 7, 12, 18, 30, 42), between(5, 5, 10, 15, 35, -55)),
		slices.Concat(between(1, 1, 33, -47, 29, 91), between(2, 2, 18, 35, -51, 17)),
		slices.Concat(between(1, 1, 33, -47, 29), between(2, 2, 18, 35, -51)),
		slices.Concat(between(-1, 1, 98, 99, 97), between(20, 22, 45, -46, 47), between(3, 4, 9, 9, 8)),
		{{[]int{-81, -56, -95, -78, -25}, 8}, {[]int{80, 56, 95, 78, 25}, -7}},
		{{[]int{52, 86, -84, -51}, 61}, {[]int{26, -46, -14, 46}, -91}, {[]int{-76, -10, 72, 19}, -36}, {[]int{-52, -86, 84, 49}, -54}},
		{{[]int{64, 94, 67}, 28}, {[]int{-66, 83, 2}, -27}, {[]int{88, 49, -48}, -69}, {[]int{62, 31, 37}, 27}, {[]int{24, -95, -99}, -53}, {[]int{-64, -94, -67}, -17}},
		{{[]int{-72, -94}, 28}, {[]int{-1, -4}, 89}, {[]int{-78, -98}, 25}, {[]int{8, 48}, -28}, {[]int{72, 95}, -19}, {[]int{-42, -12}, -32}, {[]int{-21, 20}, 51}, {[]int{-95, -41}, -66}},
	} {
		b := ends(len(rows[0].n))
		b.rows = rows
		for _, mixed := range []bool{false, true} {
			checkBox(t, b, mixed)
		}
	}
}

// TestMoreSteps: P9.3: a verdict that is known stays; and P9.1: with any steps it ends.
func TestMoreSteps(t *testing.T) {
	m := newMaker(3)
	became := 0
	for i := range 150 {
		names := 1 + i%5
		b := m.fill(m.bounds(names, 20), 12, 99)
		l := b.given(i%2 == 0)
		if i%3 == 0 {
			l = m.free(names, 1+m.Intn(8), 99)
		}
		var known answer
		for _, steps := range []int{math.MinInt, -1, 0, 1, 2, 3, 4, 6, 8, 12, 20, 40, 100, 1000, enough, enough + 1, 1 << 40, math.MaxInt} {
			a := solve(l, steps)
			if a.err != api.OK || known.verdict != api.Unknown && a.verdict != known.verdict {
				t.Fatalf("P9.3: %v: %d steps: %d, behind %d", l, steps, a.verdict, known.verdict)
			}
			if known.verdict == api.Unknown && a.verdict != api.Unknown && steps > 1 {
				became++
			}
			known = a
		}
		if a := ask(t, l, enough); !reflect.DeepEqual(a, known) || a.verdict == api.Unknown {
			t.Fatalf("P9.3: %v: %v, and %v", l, a, known)
		}
	}
	if became < 20 {
		t.Errorf("just %d verdicts took more than a step", became)
	}
}

// free tells rows of so many names without bounds.
func (m maker) free(names, rows, most int) []api.Lin {
	b := m.fill(box{low: make([]int, names)}, rows+2*names, most)
	return box{rows: b.rows}.given(false)
}

// TestFree: P9.1: rows without bounds: what is told of them is right, and it ends. (No promise says that they aren't left open; that so few names never are is for the layers above.)
func TestFree(t *testing.T) {
	var counts [3]int
	for i := range 3000 {
		m := newMaker(int64(i))
		l := m.free(1+i%6, 1+m.Intn(12), []int{3, 9, 99}[i%3])
		counts[ask(t, l, enough).verdict]++
	}
	if counts[api.Unknown] > 0 || counts[api.Sat] < 500 || counts[api.Unsat] < 500 {
		t.Errorf("verdicts %v", counts)
	}
	checkAll(t, []verdictOf{
		{rows("3 x -7 y <= 1\n -3 x 7 y <= -1\n -1 x <= -100"), api.Sat},
		{rows("2 x -2 y <= 1\n -2 x 2 y <= -1"), api.Unsat},
		{rows("1 x 1 y -2 z <= 0\n -1 x -1 y 2 z <= 0\n 1 x -1 y -2 w <= 1\n -1 x 1 y 2 w <= -1"), api.Unsat},
		{rows("6 x 10 y 15 z <= 1\n -6 x -10 y -15 z <= -1"), api.Sat},
		{rows("6 x 10 y 15 z <= 1\n -6 x -10 y -15 z <= -1\n -1 x <= -1000\n -1 y <= -1000\n 1 z <= 0"), api.Sat},
		{rows("6 x 10 y 14 z <= 7\n -6 x -10 y -14 z <= -1\n 1 x -1 y <= 3\n -3 x 3 y <= -7"), api.Sat},
		{rows("9 x -9 y 4 z <= 5\n -9 x 9 y -4 z <= -5\n 3 z <= 4\n -3 z <= 2"), api.Unsat},
		{rows("5 x -8 y <= -1\n -5 x 8 y <= 3\n 2 x -3 y <= -1"), api.Sat},
		{rows("-1 x 10 y <= 0\n 1 x -11 y <= 0\n 2 x -21 y <= 1\n -2 x 21 y <= -1\n -1 y <= -1"), api.Sat},
		{rows("-1 x 99 y <= 0\n 1 x -99 y <= 0\n 98 z -1 x <= -97\n -98 z 1 x <= 97\n 99 u -1 y <= -1\n -99 u 1 y <= 1"), api.Sat},
	})
}

// TestMany: P9.1: many rows and names: it ends, and what is told is right.
func TestMany(t *testing.T) {
	m := newMaker(1)
	chain := []api.Lin{row("-5", "n0", "-1")}
	star := []api.Lin{row("0", "y", "-1"), {K: "-5"}}
	var thick []api.Lin
	for i := range 400 {
		name, next := "n"+strconv.Itoa(i), "n"+strconv.Itoa(i+1)
		chain = append(chain, row("-1", name, "1", next, "-1"))
		star = append(star, row("1", name, "1", "y", "1"))
		star[1].C = append(star[1].C, api.Coef{Name: name, N: "-1"})
		x := api.Lin{K: strconv.Itoa(m.within(99))}
		for j := range 200 {
			x.C = append(x.C, api.Coef{Name: "n" + strconv.Itoa(j), N: strconv.Itoa(m.within(99))})
		}
		thick = append(thick, x)
	}
	checkAll(t, []verdictOf{{chain, api.Sat}, {append(slices.Clip(chain), row("404", "n400", "1")), api.Unsat}, {append(slices.Clip(chain), row("405", "n400", "1")), api.Sat}, {star, api.Sat}})
	ask(t, thick, 1000)
	if a := solve(thick, math.MaxInt); a.err != api.OK {
		t.Errorf("P9.1: %v", a.err)
	}
}

// TestUnlike: P9.1: of rows that share no divisor, all together would be there very many times: it ends.
func TestUnlike(t *testing.T) {
	all := api.Lin{K: "-100000"}
	tight, long := []api.Lin{}, []api.Lin{}
	for i := range 2000 {
		name, times := "n"+strconv.Itoa(i), strconv.Itoa(100003+2*i)
		all.C = append(all.C, api.Coef{Name: name, N: "-1"})
		tight = append(tight, row("1", name, times))
		times = longest[:390] + times
		long = append(long, row(times, name, times))
	}
	for _, l := range [][]api.Lin{tight, long} {
		if a := ask(t, append(l, all), math.MaxInt); a.verdict == api.Sat {
			t.Errorf("P9.1: %d", a.verdict)
		}
	}
}
