package smt

import (
	"testing"

	"avow/api"
	"avow/cert"
	"avow/model"
)

// TestRefuted: P13.5: of formulas that have a model the verdict is never Unsat; what is Unsat holds in no structure.
func TestRefuted(t *testing.T) {
	m := newMaker(51)
	counts := [3]int{}
	for range 250 {
		structure := m.structure()
		l := m.formulas(12, 3)
		if m.Intn(2) == 0 {
			l = append(l, m.universal(), m.universal())
		}
		for i := range l {
			holds, e := model.Holds(sigOf(), structure, l[i:i+1])
			if e == api.ErrModelAll {
				l[i] = yes()
			} else if e != api.OK {
				t.Fatal(e)
			} else if !holds {
				l[i] = not(l[i])
			}
		}
		if got := ask(t, l, enough); got == api.Unsat {
			t.Fatalf("P13.5: refuted, and true in %v\n%s", structure, texts(l))
		}
		l = append(l, m.formulas(30, 3)...)
		got := ask(t, l, enough)
		counts[got]++
		if got != api.Unsat {
			continue
		}
		for range 30 {
			structure := m.structure()
			if holds, e := model.Holds(sigOf(), structure, l); holds || e != api.OK {
				t.Fatalf("P13.5: %v, %v in %v\n%s", holds, e, structure, texts(l))
			}
		}
	}
	if counts[api.Unsat] < 50 {
		t.Errorf("P13.5: so many of each verdict: %v", counts)
	}
}

// TestKinds: certificates have lines of each kind, and none that isn't needed by others: without any of them they aren't taken.
func TestKinds(t *testing.T) {
	m := newMaker(52)
	kinds := map[int]int{}
	idle, total := 0, 0
	for i := range 300 {
		l := append(m.formulas(25, 3), m.universal(), m.universal())
		if x, y := m.number(1), m.number(1); i%10 == 0 {
			l = terms(m.formula(3), not(same(x, y)), atMost(x, y), atMost(y, x))
		}
		p, e := Solve(sigOf(), l, enough)
		if e != api.OK {
			t.Fatal(e)
		}
		for i, x := range p.Cert {
			kinds[x.Kind]++
			total++
			if len(p.Cert) > 60 {
				continue
			}
			less := append(append([]api.Line{}, p.Cert[:i]...), p.Cert[i+1:]...)
			if _, e := cert.Check(sigOf(), l, less); e == api.OK {
				idle++
			}
		}
	}
	for kind := api.LineInput; kind <= api.LineRup; kind++ {
		if kinds[kind] < 10 {
			t.Errorf("P13.1: only %d lines of kind %d", kinds[kind], kind)
		}
	}
	if idle > total/20 {
		t.Errorf("P13.1: %d of %d lines aren't needed", idle, total)
	}
}
