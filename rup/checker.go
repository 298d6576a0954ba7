package rup

import (
	"math"
	"slices"
)

// Truths of literals.
const (
	isFalse = iota - 1
	untold
	isTrue
)

// clause: its first two literals are watched: while neither is false, it says nothing.
type clause struct {
	l []int
	// next: where the look for another literal to be watched goes on: from the beginning, a long clause would be gone through anew for each of its literals.
	next int
}

// checker holds clauses, and what they say with nothing taken as true: that needn't be found anew for each clause of a trace. A literal is twice a number's place, and 1 more for its opposite.
type checker struct {
	places  map[int]int // by numbers above 0
	clauses []clause
	watches [][]int // by literals: the clauses to be looked at when it comes to be false
	truth   []int8  // by literals
	trail   []int   // what is true, in the order in which it came to be
	head    int     // so much of the trail has been followed up
	empty   bool    // a clause is empty
	refuted bool    // a clause is false with nothing taken as true
}

func newChecker(l [][]int) *checker {
	k := &checker{places: map[int]int{}}
	for _, c := range l {
		if isClause(c) {
			k.add(c)
		}
	}
	return k
}

// isClause tells whether c has literals alone.
func isClause(c []int) bool {
	return !slices.Contains(c, 0) && !slices.Contains(c, math.MinInt)
}

// literal tells the literal of a number; a new one has a place of its own from then on.
func (k *checker) literal(x int) int {
	place, ok := k.places[max(x, -x)]
	if !ok {
		place = len(k.places)
		k.places[max(x, -x)] = place
		k.truth = append(k.truth, untold, untold)
		k.watches = append(k.watches, nil, nil)
	}
	if x < 0 {
		return 2*place + 1
	}
	return 2 * place
}

func opposite(x int) int { return x ^ 1 }

// literals tells the literals of a clause, each once; false, if one and its opposite are among them.
func (k *checker) literals(c []int) ([]int, bool) {
	out := make([]int, len(c))
	for i, x := range c {
		out[i] = k.literal(x)
	}
	slices.Sort(out)
	out = slices.Compact(out)
	for i := 1; i < len(out); i++ {
		if out[i] == opposite(out[i-1]) {
			return nil, false
		}
	}
	return out, true
}

// add adds a clause, and sets what is true by it with nothing taken as true.
func (k *checker) add(c []int) {
	k.empty = k.empty || len(c) == 0
	l, ok := k.literals(c)
	if !ok || k.refuted {
		return
	}
	open := 0
	for i, x := range l {
		if open < 2 && k.truth[x] != isFalse {
			l[open], l[i] = x, l[open]
			open++
		}
	}
	switch open {
	case 0:
		k.refuted = true
	case 1:
		k.set(l[0])
		k.refuted = !k.propagate()
	default:
		k.watches[l[0]] = append(k.watches[l[0]], len(k.clauses))
		k.watches[l[1]] = append(k.watches[l[1]], len(k.clauses))
		k.clauses = append(k.clauses, clause{l, 2})
	}
}

// follows tells whether a clause is false by propagation, once the opposites of c are true.
func (k *checker) follows(c []int) bool {
	if !isClause(c) {
		return false
	}
	if k.refuted {
		return true
	}
	start := len(k.trail)
	out := !k.take(c) || !k.propagate()
	for _, x := range k.trail[start:] {
		k.truth[x], k.truth[opposite(x)] = untold, untold
	}
	k.trail, k.head = k.trail[:start], start
	return out
}

// take takes the opposites of c as true; false, if one of them can't be.
func (k *checker) take(c []int) bool {
	for _, x := range c {
		y := opposite(k.literal(x))
		if k.truth[y] == isFalse {
			return false
		}
		k.set(y)
	}
	return true
}

// set makes a literal true that isn't false.
func (k *checker) set(x int) {
	if k.truth[x] == untold {
		k.truth[x], k.truth[opposite(x)] = isTrue, isFalse
		k.trail = append(k.trail, x)
	}
}

// propagate sets what clauses say, all of their other literals being false; false, if a clause comes to be false.
func (k *checker) propagate() bool {
	for k.head < len(k.trail) {
		x := opposite(k.trail[k.head])
		k.head++
		if !k.visit(x) {
			return false
		}
	}
	return true
}

// visit looks at the clauses that watch x, which has come to be false.
func (k *checker) visit(x int) bool {
	list := k.watches[x]
	kept := 0
watching:
	for i, at := range list {
		c := &k.clauses[at]
		if c.l[0] == x {
			c.l[0], c.l[1] = c.l[1], x
		}
		if k.truth[c.l[0]] != isTrue {
			for range len(c.l) - 2 {
				if c.next == len(c.l) {
					c.next = 2
				}
				if y := c.l[c.next]; k.truth[y] != isFalse {
					c.l[1], c.l[c.next] = y, x
					k.watches[y] = append(k.watches[y], at)
					continue watching
				}
				c.next++
			}
		}
		list[kept] = at
		kept++
		if k.truth[c.l[0]] == isFalse {
			kept += copy(list[kept:], list[i+1:])
			k.watches[x] = list[:kept]
			return false
		}
		k.set(c.l[0])
	}
	k.watches[x] = list[:kept]
	return true
}
