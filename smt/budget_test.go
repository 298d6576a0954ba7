package smt

import (
	"testing"

	"avow/api"
)

// TestMore: P13.3: with more of any of the budget's a verdict that was known stays.
func TestMore(t *testing.T) {
	m := newMaker(31)
	steps := []int{-1, 0, 1, 10, 64, 65, 100, 128, 130, 150, 200, 250, 300, 400, 600, 1000, 2000, 5000, 20000, 1000000}
	late := 0
	for i := range 150 {
		var l []api.Term
		switch i % 4 {
		case 0:
			l, _ = m.within(func(names []string) api.Term { return m.sumOf(names, m.Intn(4)) }, 4)
		case 1:
			l = m.formulas(20, 3)
		case 2:
			l = append(m.formulas(4, 3), m.universal(), m.universal())
		default:
			n := m.Intn(5)
			x := variable("x", ints)
			l = append(m.formulas(2, 2), m.universal(), all(bounds(ints, "x"), same(app("f", x), app("f", op(api.TSub, x, count(1)))), app("f", x)), less(app("f", count(n)), app("f", count(0))))
		}
		var known [4]int // by rounds
		for _, n := range steps {
			for rounds := range known {
				b := api.Budget{Steps: n, Rounds: 2*rounds - 1, Fuel: n}
				got := ask(t, l, b)
				if rounds > 0 && known[rounds-1] != api.Unknown {
					known[rounds] = known[rounds-1]
				}
				if known[rounds] != api.Unknown && got != known[rounds] {
					t.Fatalf("P13.3: %d with %v, and %d with less\n%s", got, b, known[rounds], texts(l))
				}
				known[rounds] = got
			}
			if n > 128 && known[3] != api.Unknown && known[0] == api.Unknown {
				late++
			}
		}
	}
	if late < 20 {
		t.Errorf("P13.3: only %d times more rounds told more", late)
	}
}
