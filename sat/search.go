package sat

import (
	"math"

	"avow/api"
)

const (
	// firstRun: so many conflicts come ahead of the first restart, and twice as many ahead of each next one.
	firstRun = 64
	// mostTold: a trace of more bytes can't be answered.
	mostTold = math.MaxInt32
	// none: no clause.
	none = -1
)

// literal: twice a number's place, and 1 more for its opposite.
type literal int32

func (x literal) opposite() literal { return x ^ 1 }

func (x literal) place() int { return int(x >> 1) }

// literalOf tells the literal of a number, or of its opposite.
func literalOf(x int) literal {
	if x < 0 {
		return literal(-x-1)<<1 | 1
	}
	return literal(x-1) << 1
}

// number is the other way round.
func (x literal) number() int {
	if x&1 == 1 {
		return -x.place() - 1
	}
	return x.place() + 1
}

// Truths of literals.
const (
	isFalse = iota - 1
	untold
	isTrue
)

// clause: its first two literals are watched; where it is the reason of one, that one is the first.
type clause struct {
	l []literal
	// next: where the look for another literal to be watched goes on: from the beginning, a long clause would be gone through anew for each of its literals.
	next int
	// levels: so many decisions made the clause false when it was learnt: the fewer, the more it is worth.
	levels int
}

// watch: a clause to be looked at when the literal that the watch is of comes to be false; and another one of it, which, while it is true, spares the look.
type watch struct {
	clause int
	other  literal
}

// search decides clauses: it sets literals true by decisions, and by clauses of which all others are false; of each conflict it learns a clause, by which it goes back.
type search struct {
	clauses []clause
	watches [][]watch // by literals
	truth   []int8    // by literals
	level   []int     // by places: how many decisions had been made
	reason  []int     // by places: the clause that made it so
	saved   []literal // by places: what it was last
	trail   []literal // what is true, in the order in which it came to be
	starts  []int     // by decisions: the trail's length ahead of it
	head    int       // so much of the trail has been followed up
	order   *order
	refuted bool // no decision is needed to make a clause false
	marks   []bool
	learned []int // those of clauses that were learnt and are kept
	room    int   // for those
	trace   [][]int
	told    int // bytes of the trace
}

func newSearch(n int) *search {
	s := &search{
		watches: make([][]watch, 2*n), truth: make([]int8, 2*n), level: make([]int, n), reason: make([]int, n), saved: make([]literal, n),
		order: newOrder(n), marks: make([]bool, 2*n), room: firstRoom,
	}
	for i := range s.saved {
		s.saved[i] = literalOf(-i - 1)
	}
	return s
}

// give adds a clause that is given: each literal once, and not at all, if it is true whatever its literals are.
func (s *search) give(c []int) {
	l := make([]literal, 0, len(c))
	always := false
	for _, y := range c {
		x := literalOf(y)
		always = always || s.marks[x.opposite()]
		if !s.marks[x] {
			s.marks[x] = true
			l = append(l, x)
		}
	}
	for _, x := range l {
		s.marks[x] = false
	}
	switch {
	case always:
	case len(l) == 0:
		s.refuted = true
	case len(l) > 1:
		s.add(clause{l: l})
	case s.truth[l[0]] == isFalse:
		s.refuted = true
	case s.truth[l[0]] == untold:
		s.set(l[0], none)
	}
}

// add keeps a clause of two literals or more, and tells its place.
func (s *search) add(c clause) int {
	at := len(s.clauses)
	c.next = 2
	s.clauses = append(s.clauses, c)
	s.watches[c.l[0]] = append(s.watches[c.l[0]], watch{at, c.l[1]})
	s.watches[c.l[1]] = append(s.watches[c.l[1]], watch{at, c.l[0]})
	return at
}

// run searches until there is a verdict, or one conflict more than there may be.
func (s *search) run(conflicts int) int {
	length := firstRun
restart:
	for {
		s.back(0)
		for left := length; ; {
			conflict := s.follow()
			switch {
			case s.refuted || conflict != none && len(s.starts) == 0:
				s.trace = append(s.trace, []int{})
				return api.Unsat
			case conflict == none && !s.decide():
				return api.Sat
			case conflict == none:
				continue
			case conflicts == 0 || s.told > mostTold:
				return api.Unknown
			}
			conflicts--
			s.learn(conflict)
			left--
			if left == 0 {
				length *= 2
				continue restart
			}
		}
	}
}

// decide sets a literal that isn't told, the most active one; false, if there is none.
func (s *search) decide() bool {
	for len(s.order.heap) > 0 {
		place := s.order.take()
		if x := s.saved[place]; s.truth[x] == untold {
			s.starts = append(s.starts, len(s.trail))
			s.set(x, none)
			return true
		}
	}
	return false
}

// set makes a literal true.
func (s *search) set(x literal, reason int) {
	s.truth[x], s.truth[x.opposite()] = isTrue, isFalse
	s.level[x.place()], s.reason[x.place()] = len(s.starts), reason
	s.trail = append(s.trail, x)
}

// back takes all decisions back but so many.
func (s *search) back(level int) {
	if len(s.starts) <= level {
		return
	}
	start := s.starts[level]
	for _, x := range s.trail[start:] {
		s.truth[x], s.truth[x.opposite()] = untold, untold
		s.saved[x.place()] = x
		s.order.put(x.place())
	}
	s.trail, s.starts, s.head = s.trail[:start], s.starts[:level], start
}

// follow sets all that clauses say, all of their other literals being false; it tells a clause that came to be false, or none.
func (s *search) follow() int {
	for s.head < len(s.trail) {
		x := s.trail[s.head].opposite()
		s.head++
		if conflict := s.visit(x); conflict != none {
			return conflict
		}
	}
	return none
}

// visit looks at the clauses that watch x, which has come to be false.
func (s *search) visit(x literal) int {
	list := s.watches[x]
	kept := 0
	for i, w := range list {
		list[kept] = w
		kept++
		if s.truth[w.other] == isTrue {
			continue
		}
		l := s.clauses[w.clause].l
		if l[0] == x {
			l[0], l[1] = l[1], x
		}
		list[kept-1].other = l[0]
		if s.truth[l[0]] == isTrue {
			continue
		}
		if k := s.spare(&s.clauses[w.clause]); k > 0 {
			l[1], l[k] = l[k], x
			s.watches[l[1]] = append(s.watches[l[1]], watch{w.clause, l[0]})
			kept--
			continue
		}
		if s.truth[l[0]] == isFalse {
			kept += copy(list[kept:], list[i+1:])
			s.watches[x] = list[:kept]
			return w.clause
		}
		s.set(l[0], w.clause)
	}
	s.watches[x] = list[:kept]
	return none
}

// spare tells where a literal stands, behind the watched ones, that isn't false, or 0.
func (s *search) spare(c *clause) int {
	for range len(c.l) - 2 {
		if c.next == len(c.l) {
			c.next = 2
		}
		if s.truth[c.l[c.next]] != isFalse {
			return c.next
		}
		c.next++
	}
	return 0
}

// assignment tells the truth of each number, all of them being told.
func (s *search) assignment() []bool {
	out := make([]bool, len(s.level))
	for i := range out {
		out[i] = s.truth[literalOf(i+1)] == isTrue
	}
	return out
}
