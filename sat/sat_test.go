package sat

import (
	"math"
	"math/rand"
	"reflect"
	"slices"
	"testing"

	"avow/api"
	"avow/rup"
)

const enough = 100000

// answer: all that Solve tells.
type answer struct {
	verdict int
	truth   []bool
	trace   [][]int
	err     api.Errno
}

func solve(n int, l [][]int, steps int) answer {
	verdict, truth, trace, e := Solve(n, l, steps)
	return answer{verdict, truth, trace, e}
}

// holds tells whether a number is true, or its opposite, if it is below 0.
func holds(x int, truth []bool) bool {
	if x < 0 {
		return !truth[-x-1]
	}
	return truth[x-1]
}

// allHold tells whether each clause has a true literal.
func allHold(l [][]int, truth []bool) bool {
	for _, c := range l {
		if !slices.ContainsFunc(c, func(x int) bool { return holds(x, truth) }) {
			return false
		}
	}
	return true
}

// someHold tries all assignments.
func someHold(n int, l [][]int) bool {
	truth := make([]bool, n)
	for bits := range 1 << n {
		for i := range truth {
			truth[i] = bits>>i&1 == 1
		}
		if allHold(l, truth) {
			return true
		}
	}
	return false
}

// slowFollows tells whether c follows from l, by the words of chapter 7.
func slowFollows(n int, l [][]int, c []int) bool {
	told := make([]int, n+1) // 1: true, -1: false
	worth := func(x int) int { return told[max(x, -x)] * x / max(x, -x) }
	for _, x := range c {
		if worth(x) > 0 {
			return true
		}
		told[max(x, -x)] = -x / max(x, -x)
	}
	for again := true; again; {
		again = false
		for _, d := range l {
			open := map[int]bool{}
			isTrue := false
			for _, x := range d {
				isTrue = isTrue || worth(x) > 0
				if worth(x) == 0 {
					open[x] = true
				}
			}
			if isTrue || len(open) > 1 {
				continue
			}
			if len(open) == 0 {
				return true
			}
			for x := range open {
				told[max(x, -x)] = x / max(x, -x)
			}
			again = true
		}
	}
	return false
}

// checkTrace holds a trace against the words of the promise.
func checkTrace(t *testing.T, n int, l, trace [][]int) {
	t.Helper()
	if len(trace) == 0 || len(trace[len(trace)-1]) != 0 {
		t.Fatalf("P6.1: %.300v: the trace's last clause isn't empty: %.300v", l, trace)
	}
	have := slices.Clone(l)
	for i, c := range trace {
		for _, x := range c {
			if x == 0 || x > n || x < -n {
				t.Fatalf("P6.1: %.300v: the trace has a number %d", l, x)
			}
		}
		if !slowFollows(n, have, c) {
			t.Fatalf("P6.1: %.300v: the trace's clause %d doesn't follow: %.300v", l, i, trace)
		}
		have = append(have, c)
	}
	checkSoon(t, l, trace)
}

// checkSoon does likewise, for traces that are too long for words.
func checkSoon(t *testing.T, l, trace [][]int) {
	t.Helper()
	if at, e := rup.Check(l, trace); e != api.OK || at != len(trace) || len(trace) == 0 || len(trace[at-1]) != 0 {
		t.Fatalf("P6.4: %.300v: the trace isn't taken: %d of %d, %v", l, at, len(trace), e)
	}
}

// checkBeside holds all but a trace against the promise.
func checkBeside(t *testing.T, n int, l [][]int, a answer) {
	t.Helper()
	switch {
	case a.err != api.OK:
		t.Fatalf("P6.1: %.300v of %d: %v", l, n, a.err)
	case a.verdict != api.Sat && len(a.truth) != 0 || a.verdict != api.Unsat && len(a.trace) != 0:
		t.Fatalf("P6.1: %.300v of %d: %d, with %.300v, %.300v beside it", l, n, a.verdict, a.truth, a.trace)
	case a.verdict == api.Sat && (len(a.truth) != n || !allHold(l, a.truth)):
		t.Fatalf("P6.1: %.300v of %d: not so: %.300v", l, n, a.truth)
	case a.verdict != api.Sat && a.verdict != api.Unsat && a.verdict != api.Unknown:
		t.Fatalf("P6.1: %.300v of %d: the verdict %d", l, n, a.verdict)
	}
}

// checked tells the answer to clauses, held against P6.1.
func checked(t *testing.T, n int, l [][]int, steps int) answer {
	t.Helper()
	a := solve(n, l, steps)
	checkBeside(t, n, l, a)
	if a.verdict == api.Unsat {
		checkTrace(t, n, l, a.trace)
	}
	return a
}

// known tells the verdict where it may not be Unknown.
func known(t *testing.T, n int, l [][]int) int {
	t.Helper()
	a := checked(t, n, l, enough)
	if a.verdict == api.Unknown {
		t.Fatalf("P6.2: %v of %d: Unknown", l, n)
	}
	return a.verdict
}

// verdictOf tells what the verdict must be.
func verdictOf(n int, l [][]int) int {
	if someHold(n, l) {
		return api.Sat
	}
	return api.Unsat
}

func TestErrors(t *testing.T) {
	good := [][]int{{1, -2}, {}, {2}}
	type wrong struct {
		n int
		l [][]int
	}
	cases := []wrong{{-1, nil}, {-1, good}, {math.MinInt, nil}, {-1 << 16, nil}, {1<<16 + 1, nil}, {1<<16 + 1, good}, {math.MaxInt, good}, {-1, [][]int{{}}}, {-3, [][]int{{1}}}, {0, [][]int{{1}}}, {0, [][]int{{-1}}}, {0, [][]int{{0}}}}
	for _, n := range []int{1, 2, 3, 20, 1 << 16} {
		for _, x := range []int{0, n + 1, -n - 1, n + 2, 1<<16 + 1, -1<<16 - 1, math.MaxInt, math.MinInt, math.MinInt + 1, 1 << 32, 1<<32 + 1, -1 << 32, 1<<62 + 1} {
			cases = append(cases, wrong{n, [][]int{{x}}}, wrong{n, [][]int{{1, x}}}, wrong{n, [][]int{{x, -1}}}, wrong{n, [][]int{{1}, {-1, 1, x}}}, wrong{n, [][]int{{}, {-1}, {1}, {x}}}, wrong{n, [][]int{{x}, {0}}})
		}
	}
	for _, z := range cases {
		for _, steps := range []int{math.MinInt, -1, 0, 1, enough, math.MaxInt} {
			if a := solve(z.n, z.l, steps); a.err != api.ErrLit || a.verdict != 0 || a.truth != nil || a.trace != nil {
				t.Errorf("P6.1: %v of %d: %v", z.l, z.n, a)
			}
		}
	}
}

func TestLiteralsAtTheEdge(t *testing.T) {
	for _, n := range []int{1, 2, 20, 21, 1<<16 - 1, 1 << 16} {
		for _, z := range []struct {
			l    [][]int
			want int
		}{{[][]int{{n}}, api.Sat}, {[][]int{{-n}}, api.Sat}, {[][]int{{1, -1}, {-n}}, api.Sat}, {[][]int{{n}, {-n}}, api.Unsat}, {[][]int{{-n}, {n, -n}, {n}}, api.Unsat}} {
			a := checked(t, n, z.l, enough)
			if a.verdict != z.want {
				t.Errorf("P6.1: %v of %d: %d", z.l, n, a.verdict)
			}
		}
		if a := checked(t, n, nil, enough); a.verdict != api.Sat || len(a.truth) != n {
			t.Errorf("P6.1: no clauses of %d: %d", n, a.verdict)
		}
	}
}

func TestSmallLists(t *testing.T) {
	for _, z := range []struct {
		n    int
		l    [][]int
		want int
	}{
		{0, nil, api.Sat}, {0, [][]int{}, api.Sat}, {0, [][]int{{}}, api.Unsat}, {0, [][]int{nil}, api.Unsat}, {0, [][]int{{}, nil, {}}, api.Unsat},
		{3, nil, api.Sat}, {3, [][]int{{}}, api.Unsat}, {3, [][]int{{1}, {}, {2}}, api.Unsat}, {3, [][]int{{}, {1}}, api.Unsat}, {3, [][]int{{1, 2}, {-1, 3}, nil}, api.Unsat},
		{1, [][]int{{1}}, api.Sat}, {1, [][]int{{-1}}, api.Sat}, {1, [][]int{{1, 1}}, api.Sat}, {1, [][]int{{-1, -1, -1}}, api.Sat}, {1, [][]int{{1, -1}}, api.Sat}, {1, [][]int{{-1, 1, -1}, {1, 1}}, api.Sat},
		{1, [][]int{{1, 1}, {-1, -1}}, api.Unsat}, {1, [][]int{{1, -1}, {1}, {-1}}, api.Unsat}, {1, [][]int{{1, -1}, {-1, 1, 1}, {}}, api.Unsat}, {1, [][]int{{1}, {1}, {1, 1}}, api.Sat},
		{2, [][]int{{1, 2}, {1, -2}, {-1, 2}}, api.Sat}, {2, [][]int{{1, 2}, {1, -2}, {-1, 2}, {-1, -2}}, api.Unsat}, {2, [][]int{{1, 2, 1}, {-2, 1, -2}, {2, 2, -1}, {-1, -2, -1, -2}}, api.Unsat}, {2, [][]int{{1, 2, -1}, {2, -2}, {-1}, {-2, -2}}, api.Sat},
		{3, [][]int{{1}, {-1, 2}, {-2, 3}, {-3}}, api.Unsat}, {3, [][]int{{1}, {-1, 2}, {-2, 3}, {3}}, api.Sat}, {3, [][]int{{-3}, {3, -2, 3}, {2, 2, 1}}, api.Sat},
	} {
		if verdict := known(t, z.n, z.l); verdict != z.want {
			t.Errorf("P6.1: %v of %d: %d", z.l, z.n, verdict)
		}
	}
}

func TestExampleOfTheChapter(t *testing.T) {
	for _, steps := range []int{1, 2, enough, math.MaxInt} {
		if a := solve(1, [][]int{{1}, {-1}}, steps); a.verdict != api.Unsat || len(a.trace) != 1 || len(a.trace[0]) != 0 || a.truth != nil || a.err != api.OK {
			t.Errorf("the example, in %d steps: %v", steps, a)
		}
	}
}

// All lists of up to three clauses over two numbers: empty ones, and such with a literal and its opposite, among them.
func TestAllShortLists(t *testing.T) {
	var clauses [][]int
	for bits := range 16 {
		c := []int{}
		for i, x := range []int{1, -1, 2, -2} {
			if bits>>i&1 == 1 {
				c = append(c, x)
			}
		}
		clauses = append(clauses, c)
	}
	check := func(l ...[]int) {
		if verdict := known(t, 2, l); verdict != verdictOf(2, l) {
			t.Fatalf("P6.1: %v: %d", l, verdict)
		}
	}
	for _, a := range clauses {
		check(a)
		for _, b := range clauses {
			check(a, b)
			for _, c := range clauses {
				check(a, b, c)
				check(a, []int{1, 2}, b, []int{-2, -1}, c)
			}
		}
	}
}

// mixed tells so many clauses, of a length from low to high each; a literal may stand in one twice, or with its opposite.
func mixed(r *rand.Rand, n, m, low, high int) [][]int {
	var l [][]int
	for range m {
		var c []int
		for range low + r.Intn(high-low+1) {
			x := 1 + r.Intn(n)
			if r.Intn(2) == 0 {
				x = -x
			}
			c = append(c, x)
		}
		l = append(l, c)
	}
	return l
}

// plain tells so many clauses of so many unlike numbers each.
func plain(r *rand.Rand, n, m, so int) [][]int {
	var l [][]int
	for range m {
		c := r.Perm(n)[:so]
		for i := range c {
			c[i]++
			if r.Intn(2) == 0 {
				c[i] = -c[i]
			}
		}
		l = append(l, c)
	}
	return l
}

func TestAgainstAllAssignments(t *testing.T) {
	r := rand.New(rand.NewSource(6))
	counts := [3]int{}
	for i := range 6000 {
		n := 1 + r.Intn(10)
		l := mixed(r, n, r.Intn(8*n), 1+i%2, 1+i%2+r.Intn(4))
		if i%50 == 0 {
			l = append(l, nil)
		}
		verdict := known(t, n, l)
		if verdict != verdictOf(n, l) {
			t.Fatalf("P6.1: %v of %d: %d", l, n, verdict)
		}
		counts[verdict]++
	}
	if counts[api.Sat] < 1000 || counts[api.Unsat] < 1000 {
		t.Errorf("too few of one verdict: %v", counts)
	}
}

// pigeons tells that so many of them sit in so many holes, no two in one.
func pigeons(birds, holes int) (int, [][]int) {
	var l [][]int
	for b := range birds {
		var c []int
		for h := range holes {
			c = append(c, b*holes+h+1)
			for o := range b {
				l = append(l, []int{-(b*holes + h + 1), -(o*holes + h + 1)})
			}
		}
		l = append(l, c)
	}
	return birds * holes, l
}

// odd tells clauses that say whether an odd number of numbers is true.
func odd(numbers []int, so bool) [][]int {
	var l [][]int
	for bits := range 1 << len(numbers) {
		c := slices.Clone(numbers)
		parity := false
		for i := range c {
			if bits>>i&1 == 1 {
				c[i] = -c[i]
				parity = !parity
			}
		}
		if parity != so {
			l = append(l, c)
		}
	}
	return l
}

// ring tells that of each point's edges an odd number is true, on a ring of points with chords: it can't be, of an odd number of points.
func ring(points, step int) (int, [][]int) {
	var l [][]int
	for i := range points {
		l = append(l, odd([]int{i + 1, (i+1)%points + 1, points + i + 1, points + (i+step)%points + 1}, true)...)
	}
	return 2 * points, l
}

// ordered tells that so many are in a total order, in which none is first.
func ordered(so int) (int, [][]int) {
	var l [][]int
	less := func(a, b int) int {
		if a < b {
			return 1 + a*so + b
		}
		return -(1 + b*so + a)
	}
	for a := range so {
		var c []int
		for b := range so {
			if a != b {
				c = append(c, less(b, a))
			}
			for d := range so {
				if a != b && b != d && a != d {
					l = append(l, []int{-less(a, b), -less(b, d), less(a, d)})
				}
			}
		}
		l = append(l, c)
	}
	return so * so, l
}

// every tells all clauses over so many numbers.
func every(so int) [][]int {
	numbers := make([]int, so)
	for i := range numbers {
		numbers[i] = i + 1
	}
	return append(odd(numbers, true), odd(numbers, false)...)
}

func TestNeverUnknown(t *testing.T) {
	for birds := 1; birds <= 10; birds++ {
		for holes := 1; birds*holes <= 20; holes++ {
			n, l := pigeons(birds, holes)
			want := api.Sat
			if birds > holes {
				want = api.Unsat
			}
			if verdict := known(t, n, l); verdict != want {
				t.Errorf("P6.1: %d pigeons, %d holes: %d", birds, holes, verdict)
			}
		}
	}
	for _, points := range []int{3, 5, 7, 8, 9, 10} {
		for step := 2; step < points-1; step++ {
			n, l := ring(points, step)
			if verdict := known(t, n, l); points%2 == 1 && verdict != api.Unsat {
				t.Errorf("P6.1: a ring of %d: %d", points, verdict)
			}
		}
	}
	for so := 1; so <= 4; so++ {
		n, l := ordered(so)
		if verdict := known(t, n, l); verdict != api.Unsat {
			t.Errorf("P6.1: an order of %d: %d", so, verdict)
		}
	}
	for so := 1; so <= 7; so++ {
		l := every(so)
		if known(t, 20, l) != api.Unsat || known(t, 20, l[1:]) != api.Sat || known(t, 20, l[:len(l)-1]) != api.Sat {
			t.Errorf("P6.1: all clauses of %d", so)
		}
	}
}

func TestNeverUnknownOfRandom(t *testing.T) {
	r := rand.New(rand.NewSource(20))
	counts := [3]int{}
	for i := range 400 {
		n := 12 + r.Intn(9)
		var l [][]int
		switch i % 4 {
		case 0:
			l = plain(r, n, 4*n+r.Intn(n), 3)
		case 1:
			l = plain(r, n, 200, 4)
		case 2:
			l = mixed(r, n, 200, 2, 9)
		case 3:
			for range 18 + r.Intn(8) {
				l = append(l, odd(plain(r, n, 1, 4)[0], true)...)
			}
		}
		counts[known(t, n, l)]++
	}
	if counts[api.Sat] < 50 || counts[api.Unsat] < 50 {
		t.Errorf("too few of one verdict: %v", counts)
	}
}

// By the bound on conflicts, steps of few numbers are enough whatever the clauses are.
func TestSteps(t *testing.T) {
	for n := range fewNumbers + 1 {
		if so := conflictsIn(n, enough); so < 1<<22 {
			t.Errorf("P6.2: %d conflicts of %d numbers", so, n)
		}
	}
	for _, n := range []int{0, 20, 21, 1 << 16} {
		last := 0
		for _, steps := range []int{1, 2, 3, 1000, math.MaxInt/64 - 1, math.MaxInt / 64, math.MaxInt/64 + 1, math.MaxInt - 1, math.MaxInt} {
			so := conflictsIn(n, steps)
			if so < steps && so < math.MaxInt/2 || so < last {
				t.Errorf("P6.3: %d conflicts in %d steps of %d", so, steps, n)
			}
			last = so
		}
	}
}

func TestMoreSteps(t *testing.T) {
	type problem struct {
		n int
		l [][]int
	}
	var problems []problem
	for holes := 1; holes < 7; holes++ {
		n, l := pigeons(holes+1, holes)
		problems = append(problems, problem{n, l})
	}
	n, l := pigeons(8, 8)
	problems = append(problems, problem{n, l})
	r := rand.New(rand.NewSource(3))
	for range 40 {
		n := 10 + r.Intn(70)
		problems = append(problems, problem{n, plain(r, n, 4*n+r.Intn(n/2), 3)})
	}
	ended := [3][3]int{}
	for _, p := range problems {
		last := answer{}
		for _, steps := range []int{math.MinInt, -enough, -1, 0, 1, 2, 3, 5, 10, 20, 40, 80, 150, 300, 1000, 10000, enough, math.MaxInt} {
			a := solve(p.n, p.l, steps)
			checkBeside(t, p.n, p.l, a)
			if last.verdict != api.Unknown && !reflect.DeepEqual(a, last) {
				t.Fatalf("P6.3: %v of %d: in %d steps %v, with less %v", p.l, p.n, steps, a, last)
			}
			if steps < 1 && a.verdict != api.Unknown {
				t.Fatalf("P6.2: %v of %d: %d in %d steps", p.l, p.n, a.verdict, steps)
			}
			last = a
		}
		if last.verdict == api.Unsat {
			checkTrace(t, p.n, p.l, last.trace)
		}
		one := solve(p.n, p.l, 1)
		ended[one.verdict][last.verdict]++
	}
	if ended[api.Unknown][api.Sat] < 5 || ended[api.Unknown][api.Unsat] < 5 || ended[api.Unknown][api.Unknown] > 0 {
		t.Errorf("P6.3: by the verdict in one step, and in many: %v", ended)
	}
}

// A trace that is too great to be answered isn't: the search gives up at its next conflict.
func TestTraceTooGreat(t *testing.T) {
	n, l := pigeons(5, 4)
	for _, told := range []int{0, mostTold + 1} {
		s := newSearch(n)
		for _, c := range l {
			s.give(c)
		}
		s.told = told
		if verdict := s.run(math.MaxInt); (verdict == api.Unknown) != (told > 0) {
			t.Errorf("with %d bytes told: %d", told, verdict)
		}
	}
}

// Problems that go through restarts, and give learnt clauses up.
func TestHardLists(t *testing.T) {
	for _, holes := range []int{6, 7, 8} {
		n, l := pigeons(holes+1, holes)
		a := solve(n, l, enough)
		checkBeside(t, n, l, a)
		if a.verdict != api.Unsat {
			t.Fatalf("P6.1: %d holes: %d", holes, a.verdict)
		}
		checkSoon(t, l, a.trace)
		n, l = pigeons(holes, holes)
		if a := checked(t, n, l, enough); a.verdict != api.Sat {
			t.Fatalf("P6.1: %d holes, as many pigeons: %d", holes, a.verdict)
		}
	}
	n, l := ordered(12)
	if a := solve(n, l, enough); a.verdict != api.Unsat {
		t.Fatalf("P6.1: an order: %d", a.verdict)
	} else {
		checkSoon(t, l, a.trace)
	}
	r := rand.New(rand.NewSource(200))
	counts := [3]int{}
	for range 12 {
		l := plain(r, 180, 774, 3)
		a := solve(180, l, enough)
		checkBeside(t, 180, l, a)
		if a.verdict == api.Unsat {
			checkSoon(t, l, a.trace)
		}
		counts[a.verdict]++
	}
	if counts[api.Sat] == 0 || counts[api.Unsat] == 0 {
		t.Errorf("too few of one verdict: %v", counts)
	}
}

func TestGreatLists(t *testing.T) {
	n := 1 << 16
	var chain, long [][]int
	for x := 1; x < n; x++ {
		chain = append(chain, []int{-x, x + 1})
	}
	if a := solve(n, append(chain, []int{1}), 1); a.verdict != api.Sat || len(a.truth) != n || slices.Contains(a.truth, false) {
		t.Errorf("P6.1: a chain: %d", a.verdict)
	}
	refuted := append(chain, []int{1, 2}, []int{-n, -n + 1})
	if a := solve(n, refuted, enough); a.verdict != api.Unsat {
		t.Errorf("P6.1: a refuted chain: %d", a.verdict)
	} else {
		checkSoon(t, refuted, a.trace)
	}
	for i := range 40 {
		c := make([]int, n)
		for j := range c {
			c[j] = (i*j+i+j)%n + 1
		}
		long = append(long, c, []int{-i - 1})
	}
	a := solve(n, long, enough)
	checkBeside(t, n, long, a)
	if a.verdict != api.Sat {
		t.Errorf("P6.1: long clauses: %d", a.verdict)
	}
}

// spare tells l with spare room behind its lists, with something in it.
func spare(l [][]int) [][]int {
	out := make([][]int, 0, len(l)+1)
	for _, c := range l {
		out = append(out, append(slices.Clone(c), 99)[:len(c)])
	}
	return append(out, []int{99, -99})[:len(l)]
}

// whole tells l with the spare room behind its lists, in memory of its own.
func whole(l [][]int) [][]int {
	var out [][]int
	for _, c := range l[:cap(l)] {
		out = append(out, slices.Clone(c[:cap(c)]))
	}
	return out
}

// scribble overwrites all lists of an answer, and tells the first of two that share memory.
func scribble(t *testing.T, a answer, seen map[*int]bool) {
	t.Helper()
	for _, c := range a.trace[:cap(a.trace)] {
		c = c[:cap(c)]
		for i := range c {
			if seen[&c[i]] {
				t.Fatal("two lists of answers share memory")
			}
			seen[&c[i]] = true
			c[i] = -77
		}
	}
	for i := range a.truth {
		a.truth[i] = !a.truth[i]
	}
}

func TestTheSameAgain(t *testing.T) {
	r := rand.New(rand.NewSource(9))
	for range 300 {
		n := 5 + r.Intn(60)
		l := mixed(r, n, 4*n+r.Intn(n), 2, 4)
		steps := []int{1, 3, enough}[r.Intn(3)]
		a := solve(n, l, steps)
		kept := answer{a.verdict, slices.Clone(a.truth), whole(a.trace), a.err}
		other := spare(l)
		before := whole(other)
		b := solve(n, other, steps)
		if !reflect.DeepEqual(a, b) {
			t.Fatalf("P6.1: %v of %d, again: %v, %v", l, n, a, b)
		}
		seen := map[*int]bool{}
		scribble(t, a, seen)
		scribble(t, b, seen)
		if !reflect.DeepEqual(whole(other), before) {
			t.Fatalf("P6.1: an argument has changed: %v", other)
		}
		if c := solve(n, l, steps); c.verdict != kept.verdict || !slices.Equal(c.truth, kept.truth) || !slices.EqualFunc(c.trace, kept.trace[:len(c.trace)], slices.Equal) {
			t.Fatalf("P6.1: %v of %d, again: %v, %v", l, n, c, kept)
		}
	}
}
