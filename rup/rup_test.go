package rup

import (
	"math"
	"math/rand"
	"reflect"
	"slices"
	"testing"

	"avow/api"
)

// slowFollows tells the same as Follows, by the words of the promise.
func slowFollows(l [][]int, c []int) bool {
	told := map[int]bool{} // literals that are true
	if !slowClause(c) {
		return false
	}
	for _, x := range c {
		told[-x] = true
	}
	for _, x := range c {
		if told[x] {
			return true
		}
	}
	for again := true; again; {
		again = false
		for _, d := range l {
			if !slowClause(d) {
				continue
			}
			open := map[int]bool{}
			isTrue := false
			for _, x := range d {
				isTrue = isTrue || told[x]
				if !told[x] && !told[-x] {
					open[x] = true
				}
			}
			if !isTrue && len(open) == 0 {
				return true
			}
			if !isTrue && len(open) == 1 {
				again = true
				for x := range open {
					told[x] = true
				}
			}
		}
	}
	return false
}

func slowClause(c []int) bool { return !slices.Contains(c, 0) && !slices.Contains(c, math.MinInt) }

// slowCheck tells the same as Check.
func slowCheck(l, trace [][]int) (int, api.Errno) {
	have := slices.Clone(l)
	for i, c := range trace {
		if !slowFollows(have, c) {
			return i, api.ErrRup
		}
		have = append(have, c)
	}
	if !slices.ContainsFunc(have, func(c []int) bool { return len(c) == 0 }) {
		return len(trace), api.ErrRup
	}
	return len(trace), api.OK
}

func TestFollows(t *testing.T) {
	least, most := math.MinInt, math.MaxInt
	square := [][]int{{1, 2}, {1, -2}, {-1, 2}, {-1, -2}}
	for _, z := range []struct {
		l    [][]int
		c    []int
		want bool
	}{
		{nil, nil, false}, {nil, []int{1}, false}, {nil, []int{1, 1}, false}, {nil, []int{1, -1}, true}, {nil, []int{-1, 2, 1}, true}, {nil, []int{most, 1, -most}, true},
		{[][]int{{}}, nil, true}, {[][]int{{}}, []int{7}, true}, {[][]int{{1}, nil}, []int{-1}, true}, {[][]int{{}}, []int{0}, false}, {[][]int{{}}, []int{least}, false},
		{nil, []int{0}, false}, {nil, []int{0, 1, -1}, false}, {nil, []int{1, -1, least}, false}, {[][]int{{1}}, []int{1, 0}, false}, {[][]int{{1}}, []int{1, least}, false}, {[][]int{{1}, {-1}}, []int{0}, false},
		{[][]int{{0}}, nil, false}, {[][]int{{least}}, nil, false}, {[][]int{{0, 1}}, []int{1}, false}, {[][]int{{1, least}}, []int{1}, false}, {[][]int{{1, 0}, {1, 2}, {-2}}, []int{1}, true}, {[][]int{{0}, {least}, {1}, {-1}}, nil, true},
		{[][]int{{1}}, []int{1}, true}, {[][]int{{1}}, []int{-1}, false}, {[][]int{{1}}, []int{2}, false}, {[][]int{{1}}, []int{2, 1}, true}, {[][]int{{1, 2}}, []int{1}, false}, {[][]int{{1, 2}}, []int{2, 1}, true}, {[][]int{{1, 2}}, []int{3, 1, 2}, true},
		{[][]int{{1, 1}}, []int{1}, true}, {[][]int{{1, 1}, {-1, -1}}, nil, true}, {[][]int{{1, 2, 1}, {-2, -2}}, []int{1}, true}, {[][]int{{1, -1}}, nil, false}, {[][]int{{1, -1}}, []int{1}, false}, {[][]int{{1, -1, 2}, {-2}}, []int{1}, false},
		{square, []int{1}, true}, {square, []int{-2}, true}, {square, nil, false}, {append(square, []int{1}), nil, true}, {[][]int{{1}, {-1}}, nil, true}, {[][]int{{1}, {-1}}, []int{9}, true},
		{[][]int{{-1, 2}, {-2, 3}, {-3, 4}}, []int{-1, 4}, true}, {[][]int{{-3, 4}, {-2, 3}, {-1, 2}}, []int{4, -1}, true}, {[][]int{{-1, 2}, {-2, 3}, {-3, 4}}, []int{1, 4}, false}, {[][]int{{-1, 2}, {-2, 3}, {-3, 4}}, []int{4}, false},
		{[][]int{{most, 5}, {-5}}, []int{most}, true}, {[][]int{{-most, 5}, {-5}}, []int{-most}, true}, {[][]int{{least + 1}}, []int{-most}, true}, {[][]int{{1 << 40}}, []int{1 << 40, 3}, true}, {[][]int{{1 << 40}}, []int{1}, false},
	} {
		if got := Follows(z.l, z.c); got != z.want || slowFollows(z.l, z.c) != z.want {
			t.Errorf("P7.1: %v from %v: %v", z.c, z.l, got)
		}
	}
}

func TestCheck(t *testing.T) {
	least := math.MinInt
	square := [][]int{{1, 2}, {1, -2}, {-1, 2}, {-1, -2}}
	for _, z := range []struct {
		l, trace [][]int
		at       int
		err      api.Errno
	}{
		{nil, nil, 0, api.ErrRup}, {[][]int{{}}, nil, 0, api.OK}, {[][]int{{1}, {-1}}, nil, 0, api.ErrRup}, {[][]int{{1}, {-1}}, [][]int{{}}, 1, api.OK}, {[][]int{{1}}, [][]int{{}}, 0, api.ErrRup}, {[][]int{{1}}, [][]int{{1}}, 1, api.ErrRup},
		{square, [][]int{{1}, {}}, 2, api.OK}, {square, [][]int{{1}}, 1, api.ErrRup}, {square, [][]int{{}}, 0, api.ErrRup}, {square, [][]int{{3, 1}, {}}, 1, api.ErrRup}, {square, [][]int{{1}, {1}, {-1}, {}, {5}, {}}, 6, api.OK}, {square, [][]int{{-2, -2}, nil}, 2, api.OK},
		{square, [][]int{{1}, {0}, {}}, 1, api.ErrRup}, {square, [][]int{{1}, {}, {0}}, 2, api.ErrRup}, {square, [][]int{{1}, {}, {7, least}}, 2, api.ErrRup}, {[][]int{{}}, [][]int{{4}, {0, 4}}, 1, api.ErrRup}, {[][]int{{}}, [][]int{{4}, {-4}}, 2, api.OK},
		{[][]int{{0}}, nil, 0, api.ErrRup}, {[][]int{{0}}, [][]int{{}}, 0, api.ErrRup}, {[][]int{{0}, {1}, {-1, least}}, [][]int{{1}, {}}, 1, api.ErrRup}, {nil, [][]int{{1, -1}}, 1, api.ErrRup}, {nil, [][]int{{1, -1}, {}}, 1, api.ErrRup}, {nil, [][]int{{2, -2}, {1}}, 1, api.ErrRup},
		{[][]int{{1, 2, 3}, {-1}}, [][]int{{2, 3}, {2}}, 1, api.ErrRup}, {[][]int{{1, 2}, {-1}}, [][]int{{2}, {-2}, {}}, 1, api.ErrRup}, {[][]int{{1, 2}, {-1}, {-2, 3}}, [][]int{{3}, {2}}, 2, api.ErrRup},
	} {
		at, e := Check(z.l, z.trace)
		if at != z.at || e != z.err {
			t.Errorf("P7.2: %v, %v: %d, %v", z.l, z.trace, at, e)
		}
		if at, e := slowCheck(z.l, z.trace); at != z.at || e != z.err {
			t.Errorf("%v, %v: %d, %v", z.l, z.trace, at, e)
		}
	}
}

// some tells so many clauses; now and then with what is no literal.
func some(r *rand.Rand, n, m, most int) [][]int {
	var l [][]int
	for range m {
		var c []int
		for range 1 + r.Intn(most) {
			x := 1 + r.Intn(n)
			if r.Intn(2) == 0 {
				x = -x
			}
			c = append(c, x)
		}
		if r.Intn(60) == 0 {
			c = append(c, []int{0, math.MinInt}[r.Intn(2)])
		}
		l = append(l, c)
	}
	return l
}

func shuffled(r *rand.Rand, l [][]int) [][]int {
	out := slices.Clone(l)
	r.Shuffle(len(out), func(i, j int) { out[i], out[j] = out[j], out[i] })
	for i := range out {
		out[i] = slices.Clone(out[i])
		r.Shuffle(len(out[i]), func(j, k int) { out[i][j], out[i][k] = out[i][k], out[i][j] })
	}
	return out
}

func TestFollowsOfRandom(t *testing.T) {
	r := rand.New(rand.NewSource(7))
	counts := map[bool]int{}
	for range 20000 {
		n := 1 + r.Intn(9)
		l, c := some(r, n, r.Intn(3*n), 3), some(r, n, 1, 3)[0]
		got := Follows(l, c)
		if got != slowFollows(l, c) {
			t.Fatalf("P7.1: %v from %v: %v", c, l, got)
		}
		if Follows(shuffled(r, l), shuffled(r, [][]int{c})[0]) != got {
			t.Fatalf("P7.1: %v from %v in another order: not %v", c, l, got)
		}
		counts[got]++
		if got && !holdsWherever(n, l, c) {
			t.Fatalf("P7.3: %v from %v", c, l)
		}
	}
	if counts[true] < 2000 || counts[false] < 2000 {
		t.Errorf("too few of one answer: %v", counts)
	}
}

// holdsWherever tells whether c is true under each assignment under which all of l are that are clauses.
func holdsWherever(n int, l [][]int, c []int) bool {
	for bits := range 1 << n {
		holds := func(x int) bool { return bits>>(max(x, -x)-1)&1 == 1 == (x > 0) }
		all := true
		for _, d := range l {
			all = all && (!slowClause(d) || slices.ContainsFunc(d, holds))
		}
		if all && !slices.ContainsFunc(c, holds) {
			return false
		}
	}
	return true
}

func TestCheckOfRandom(t *testing.T) {
	r := rand.New(rand.NewSource(8))
	ended := map[api.Errno]int{}
	for range 4000 {
		n := 1 + r.Intn(7)
		l := some(r, n, 2+r.Intn(5*n), 3)
		var trace, have [][]int
		have = append(have, l...)
		for range 12 {
			c := some(r, n, 1, 2)[0]
			if r.Intn(4) == 0 {
				c = nil
			}
			if r.Intn(15) == 0 || slowFollows(have, c) {
				trace, have = append(trace, c), append(have, c)
			}
		}
		at, e := Check(l, trace)
		if want, err := slowCheck(l, trace); at != want || e != err {
			t.Fatalf("P7.2: %v, %v: %d, %v, wanted %d, %v", l, trace, at, e, want, err)
		}
		ended[e]++
	}
	if ended[api.OK] < 200 || ended[api.ErrRup] < 200 {
		t.Errorf("too few of one answer: %v", ended)
	}
}

// A checker that was asked of many clauses, and told some, answers as a new one would.
func TestCheckerAgain(t *testing.T) {
	r := rand.New(rand.NewSource(10))
	counts := map[bool]int{}
	for range 300 {
		n := 8 + r.Intn(8)
		have := slices.DeleteFunc(some(r, n, 6*n, 5), func(c []int) bool { return len(c) < 3 })
		k := newChecker(have)
		for range 100 {
			c := some(r, n, 1, 6)[0]
			want := slowFollows(have, c)
			if k.follows(c) != want {
				t.Fatalf("P7.1: %v from %v: not %v", c, have, want)
			}
			counts[want]++
			if slowClause(c) && (len(c) > 4 && r.Intn(3) == 0 || want && r.Intn(3) == 0) {
				k.add(c)
				have = append(have, c)
			}
		}
	}
	if counts[true] < 2000 || counts[false] < 2000 {
		t.Errorf("too few of one answer: %v", counts)
	}
}

// spare tells l with spare room behind its lists, with something in it.
func spare(l [][]int) [][]int {
	out := make([][]int, 0, len(l)+1)
	for _, c := range l {
		out = append(out, append(slices.Clone(c), 99)[:len(c)])
	}
	return append(out, []int{99, -99})[:len(l)]
}

// whole tells l with the spare room behind its lists, in memory of its own.
func whole(l [][]int) [][]int {
	var out [][]int
	for _, c := range l[:cap(l)] {
		out = append(out, slices.Clone(c[:cap(c)]))
	}
	return out
}

func TestArgumentsAreKept(t *testing.T) {
	r := rand.New(rand.NewSource(9))
	for range 500 {
		l, trace := spare(some(r, 6, 20, 4)), spare(some(r, 6, 5, 3))
		before, after := whole(l), whole(trace)
		at, e := Check(l, trace)
		Follows(l, trace[0])
		if again, f := Check(l, trace); again != at || f != e {
			t.Fatalf("P7.2: %v, %v: again %d, %v", l, trace, again, f)
		}
		if !reflect.DeepEqual(whole(l), before) || !reflect.DeepEqual(whole(trace), after) {
			t.Fatalf("P7.2: an argument has changed: %v, %v", l, trace)
		}
	}
}

// Long chains and long clauses are gone through soon.
func TestGreatLists(t *testing.T) {
	n := 1 << 16
	var l [][]int
	long := []int{n}
	for x := n - 1; x > 0; x-- {
		l = append(l, []int{-x, x + 1})
		long = append(long, -x)
	}
	if !Follows(l, []int{-1, n}) || Follows(l, []int{1, n}) {
		t.Errorf("P7.1: a chain")
	}
	l[0] = []int{-n, -n + 1} // so that the last one of the chain can't be
	l = append(l, long, long)
	if !Follows(l, []int{-1}) || Follows(l, []int{1}) {
		t.Errorf("P7.1: a chain with long clauses")
	}
	trace := [][]int{}
	for x := range 1000 {
		trace = append(trace, []int{-1, x + 1})
	}
	if at, e := Check(l[1:], trace); at != len(trace) || e != api.ErrRup {
		t.Errorf("P7.2: a long trace: %d, %v", at, e)
	}
}
