package smt

// Truths of literals.
const (
	isFalse = iota - 1
	untold
	isTrue
)

// pruner goes through a trace from its end, and finds the clauses by which those follow that are needed. A literal is twice a number's place, and 1 more for its opposite.
type pruner struct {
	clauses [][]int // their first two literals are watched
	limit   int     // so many of them count
	watches [][]int // by literals: the clauses to be looked at when it comes to be false
	units   []int   // clauses of which all literals but one are false at the beginning, or all
	truth   []int8  // by literals
	reason  []int   // by places: the clause that made it so
	marked  []bool  // by places
	trail   []int   // what is true, in the order in which it came to be
	head    int     // so much of the trail has been followed up
	used    []bool  // by clauses
}

// needed tells which clauses of l and of the trace, which refutes them, are needed for that.
func needed(n int, l, trace [][]int) []bool {
	p := &pruner{watches: make([][]int, 2*n), truth: make([]int8, 2*n), reason: make([]int, n), marked: make([]bool, n), used: make([]bool, len(l)+len(trace))}
	if conflict := p.given(l); conflict != none {
		p.explain(conflict)
		p.used[len(p.used)-1] = true
		return p.used
	}
	for _, c := range trace {
		p.add(c)
	}
	p.used[len(p.used)-1] = true
	for at := len(p.used) - 1; at >= len(l); at-- {
		p.limit = at
		if p.used[at] {
			p.follow(trace[at-len(l)])
		}
	}
	return p.used
}

// given adds the clauses that always count, and sets what they say. It tells one that is false then, or none.
func (p *pruner) given(l [][]int) int {
	p.limit = len(l)
	for _, c := range l {
		p.add(c)
	}
	conflict := p.setUnits()
	if conflict == none {
		conflict = p.propagate()
	}
	p.units = nil
	return conflict
}

// add adds a clause.
func (p *pruner) add(c []int) {
	at := len(p.clauses)
	l := make([]int, 0, len(c))
	for _, x := range c {
		l = append(l, literalOf(x))
	}
	p.clauses = append(p.clauses, l)
	open := 0
	for i, x := range l {
		if open < 2 && p.truth[x] != isFalse && (open == 0 || x != l[0]) {
			l[open], l[i] = x, l[open]
			open++
		}
	}
	if open < 2 {
		p.units = append(p.units, at)
		return
	}
	p.watches[l[0]] = append(p.watches[l[0]], at)
	p.watches[l[1]] = append(p.watches[l[1]], at)
}

// literalOf tells the literal of a number, or of its opposite.
func literalOf(x int) int {
	if x < 0 {
		return 2*(-x-1) + 1
	}
	return 2 * (x - 1)
}

// follow marks the clauses by which c follows.
func (p *pruner) follow(c []int) {
	start := len(p.trail)
	conflict := p.take(c)
	if conflict == none {
		conflict = p.setUnits()
	}
	if conflict == none {
		conflict = p.propagate()
	}
	if conflict != none {
		p.explain(conflict)
	}
	for _, x := range p.trail[start:] {
		p.truth[x], p.truth[x^1] = untold, untold
	}
	p.trail, p.head = p.trail[:start], start
}

// take takes the opposites of c as true. It tells the clause by which one of them can't be, or none.
func (p *pruner) take(c []int) int {
	for _, x := range c {
		y := literalOf(x)
		if p.truth[y] == isTrue {
			return p.reason[y>>1]
		}
		p.set(y^1, none)
	}
	return none
}

// setUnits sets what clauses say that have just one literal that isn't false. It tells one that has none, or none.
func (p *pruner) setUnits() int {
	for _, at := range p.units {
		if at >= p.limit {
			break
		}
		l := p.clauses[at]
		if len(l) == 0 || p.truth[l[0]] == isFalse {
			return at
		}
		p.set(l[0], at)
	}
	return none
}

// set makes a literal true that isn't false.
func (p *pruner) set(x, reason int) {
	if p.truth[x] == untold {
		p.truth[x], p.truth[x^1] = isTrue, isFalse
		p.reason[x>>1] = reason
		p.trail = append(p.trail, x)
	}
}

// propagate sets what clauses say, all of their other literals being false; it tells a clause that comes to be false, or none.
func (p *pruner) propagate() int {
	for p.head < len(p.trail) {
		x := p.trail[p.head] ^ 1
		p.head++
		if conflict := p.visit(x); conflict != none {
			return conflict
		}
	}
	return none
}

// visit looks at the clauses that watch x, which has come to be false. Those that don't count any more are left out for good.
func (p *pruner) visit(x int) int {
	list := p.watches[x]
	kept := 0
	conflict := none
	for i, at := range list {
		if at >= p.limit {
			continue
		}
		l := p.clauses[at]
		if l[0] == x {
			l[0], l[1] = l[1], x
		}
		if p.truth[l[0]] != isTrue && p.rewatch(at, l) {
			continue
		}
		list[kept] = at
		kept++
		if p.truth[l[0]] == isFalse {
			conflict = at
			kept += copy(list[kept:], list[i+1:])
			break
		}
		p.set(l[0], at)
	}
	p.watches[x] = list[:kept]
	return conflict
}

// rewatch has a clause watch another literal in place of its second one; false, if all others are false.
func (p *pruner) rewatch(at int, l []int) bool {
	for k := 2; k < len(l); k++ {
		if p.truth[l[k]] != isFalse && l[k] != l[0] {
			l[1], l[k] = l[k], l[1]
			p.watches[l[1]] = append(p.watches[l[1]], at)
			return true
		}
	}
	return false
}

// explain marks a clause that can't be, and those that made its literals false.
func (p *pruner) explain(conflict int) {
	p.use(conflict)
	for i := len(p.trail) - 1; i >= 0; i-- {
		place := p.trail[i] >> 1
		if p.marked[place] && p.reason[place] != none {
			p.use(p.reason[place])
		}
		p.marked[place] = false
	}
}

// use marks a clause, and the places of its literals.
func (p *pruner) use(at int) {
	p.used[at] = true
	for _, x := range p.clauses[at] {
		p.marked[x>>1] = true
	}
}
