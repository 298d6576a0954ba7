package euf

import (
	"slices"
	"strconv"
	"testing"

	"avow/api"
	"avow/term"
)

// plain: a closure that goes round over all its terms until nothing is new.
type plain struct {
	terms []api.Term
	parts [][]int
	at    map[string]int
	class []int
}

// function tells what operator a term has, as a text: terms of one function are equal, if their operands are.
func function(t api.Term) string {
	out := strconv.Itoa(t.Op) + "/" + strconv.Itoa(len(t.L))
	switch t.Op {
	case api.TNum:
		out += strconv.Quote(t.N)
	case api.TApp:
		out += strconv.Quote(t.Name)
	}
	return out
}

func (p *plain) put(t api.Term) int {
	key := function(t)
	var parts []int
	for _, x := range t.L {
		parts = append(parts, p.put(x))
		key += " " + strconv.Itoa(parts[len(parts)-1])
	}
	if at, ok := p.at[key]; ok {
		return at
	}
	at := len(p.terms)
	p.at[key] = at
	p.terms, p.parts, p.class = append(p.terms, t), append(p.parts, parts), append(p.class, at)
	return at
}

func (p *plain) join(a, b int) {
	from, to := p.class[a], p.class[b]
	for i, c := range p.class {
		if c == from {
			p.class[i] = to
		}
	}
}

func (p *plain) equal(a, b api.Term) bool { return p.class[p.put(a)] == p.class[p.put(b)] }

func (p *plain) congruent(i, k int) bool {
	return function(p.terms[i]) == function(p.terms[k]) && slices.EqualFunc(p.parts[i], p.parts[k], func(x, y int) bool { return p.class[x] == p.class[y] })
}

func (p *plain) close() {
	for again := true; again; {
		again = false
		for i := range p.terms {
			for k := range i {
				if p.class[i] != p.class[k] && p.congruent(i, k) {
					p.join(i, k)
					again = true
				}
			}
		}
	}
}

// clash tells whether two that are never equal are.
func (p *plain) clash() bool {
	for i, x := range p.terms {
		for k, y := range p.terms[:i] {
			if len(x.L) > 0 || len(y.L) > 0 || p.class[i] != p.class[k] {
				continue
			}
			if x.Op == api.TNum && y.Op == api.TNum || x.Op == api.TTrue && y.Op == api.TFalse || x.Op == api.TFalse && y.Op == api.TTrue {
				return true
			}
		}
	}
	return false
}

// saidBy tells the closure of literals over their terms, and more; and whether they can be.
func saidBy(l []api.Lit, more ...api.Term) (*plain, bool) {
	p := &plain{at: map[string]int{}}
	for _, t := range more {
		p.put(t)
	}
	truth := map[bool]int{false: p.put(yes()), true: p.put(no())}
	var apart [][2]int
	for _, x := range l {
		switch {
		case x.Atom.Op != api.TEq:
			p.join(p.put(x.Atom), truth[x.Neg])
		case x.Neg:
			apart = append(apart, [2]int{p.put(x.Atom.L[0]), p.put(x.Atom.L[1])})
		default:
			p.join(p.put(x.Atom.L[0]), p.put(x.Atom.L[1]))
		}
	}
	p.close()
	can := !p.clash()
	for _, x := range apart {
		can = can && p.class[x[0]] != p.class[x[1]]
	}
	return p, can
}

// inOrder tells whether these are numbers below n, each once, in order.
func inOrder(l []int, n int) bool {
	for i, x := range l {
		if x < 0 || x >= n || i > 0 && x <= l[i-1] {
			return false
		}
	}
	return true
}

// checkConflict holds Conflict to be right of an Euf that was told l.
func checkConflict(t *testing.T, e *Euf, l []api.Lit, can bool) {
	t.Helper()
	conflict := e.Conflict()
	if can != (len(conflict) == 0) || !inOrder(conflict, len(l)) {
		t.Fatalf("P8.3: %s: conflict %v", words(l...), conflict)
	}
	if can {
		return
	}
	if _, can := saidBy(some(l, conflict)); can {
		t.Fatalf("P8.3: %s: %v can all be", words(l...), conflict)
	}
	if _, can := told(t, some(l, conflict)...); can {
		t.Fatalf("P8.1: %s: %v alone", words(l...), conflict)
	}
}

// checkPair holds Equal and Explain to be right of an Euf that was told l.
func checkPair(t *testing.T, e *Euf, l []api.Lit, a, b api.Term) bool {
	t.Helper()
	p, _ := saidBy(l, a, b)
	want := p.equal(a, b)
	why, ok := e.Explain(a, b)
	if e.Equal(a, b) != want || e.Equal(b, a) != want || ok != want || !inOrder(why, len(l)) || !want && len(why) != 0 {
		t.Fatalf("P8.3: %s: of %s, %s: %v, %v", words(l...), term.Text(a), term.Text(b), why, ok)
	}
	if !want {
		return false
	}
	if p, _ := saidBy(some(l, why), a, b); !p.equal(a, b) {
		t.Fatalf("P8.3: %s: %v isn't enough for %s, %s", words(l...), why, term.Text(a), term.Text(b))
	}
	alone, _ := told(t, some(l, why)...)
	if !alone.Equal(a, b) {
		t.Fatalf("P8.3: %s: %v alone don't make %s, %s equal", words(l...), why, term.Text(a), term.Text(b))
	}
	return true
}
