package smt

import (
	"testing"

	"avow/api"
	"avow/rup"
	"avow/sat"
)

// TestNeeded: what is needed of a trace, and of the clauses that it refutes, refutes them; and hardly ever is more than half of it needed where there is much beside.
func TestNeeded(t *testing.T) {
	m := newMaker(61)
	kept, all := 0, 0
	for range 600 {
		n := 3 + m.Intn(12)
		var l [][]int
		for range 5 * n {
			var c []int
			for range 1 + m.Intn(4) {
				c = append(c, (1+m.Intn(n))*(1-2*m.Intn(2)))
			}
			l = append(l, c)
		}
		if m.Intn(40) == 0 {
			l = append(l, nil)
		}
		verdict, _, trace, e := sat.Solve(n, l, 100000)
		if e != api.OK || verdict != api.Unsat {
			continue
		}
		used := needed(n, l, trace)
		var some, follow [][]int
		for i, c := range l {
			if used[i] {
				some = append(some, c)
			}
		}
		for i, c := range trace {
			if used[len(l)+i] {
				follow = append(follow, c)
			}
		}
		if at, e := rup.Check(some, follow); e != api.OK {
			t.Fatalf("%d of %v doesn't follow from %v", at, follow, some)
		}
		kept, all = kept+len(some), all+len(l)
	}
	if kept > all/2 || kept == 0 {
		t.Errorf("%d of %d clauses are needed", kept, all)
	}
}
