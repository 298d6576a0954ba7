package euf

import "slices"

// explanation collects assertions by which nodes are equal: those of the links between them, and of those by which links came to be.
type explanation struct {
	closure *closure
	open    []link      // those that are still to be explained; their reasons say nothing
	beyond  map[int]int // of nodes whose link up was told: a node further up, so that no link is gone over often
	numbers []int
}

// why tells, in order, assertions by which alone two are equal that are.
func (c *closure) why(a, b int) []int {
	x := explanation{closure: c, beyond: map[int]int{}}
	x.ask(a, b)
	for len(x.open) > 0 {
		last := len(x.open) - 1
		l := x.open[last]
		x.open = x.open[:last]
		x.explain(x.top(l.a), x.top(l.b))
	}
	slices.Sort(x.numbers)
	return x.numbers
}

func (x *explanation) ask(a, b int) { x.open = append(x.open, link{a: a, b: b}) }

// top tells the first node, from a node on upwards, whose link up wasn't told.
func (x *explanation) top(number int) int {
	for {
		up, ok := x.beyond[number]
		if !ok {
			return number
		}
		if further, ok := x.beyond[up]; ok {
			x.beyond[number] = further
		}
		number = up
	}
}

// explain tells all links between two tops.
func (x *explanation) explain(a, b int) {
	if a == b {
		return
	}
	meeting := x.meeting(a, b)
	x.climb(a, meeting)
	x.climb(b, meeting)
}

// meeting tells the first top that is above both, going up from both by turns: so it takes no more steps than twice the links that are told then.
func (x *explanation) meeting(a, b int) int {
	met := map[int]struct{}{}
	for {
		if a != none {
			if _, ok := met[a]; ok {
				return a
			}
			met[a] = struct{}{}
			a = x.above(a)
		}
		a, b = b, a
	}
}

// above tells the next top above a top; none, if there is none.
func (x *explanation) above(number int) int {
	up := x.closure.nodes[number].up
	if up == none {
		return none
	}
	return x.top(up)
}

// climb tells the links from a top up to another one.
func (x *explanation) climb(from, to int) {
	for from != to {
		n := x.closure.nodes[from]
		x.tell(from, n.up, n.reason)
		x.beyond[from] = n.up
		from = x.top(n.up)
	}
}

// tell tells one link: its assertion, or what made it.
func (x *explanation) tell(a, b, reason int) {
	if reason != congruence {
		x.numbers = append(x.numbers, reason)
		return
	}
	m, n := x.closure.nodes[a], x.closure.nodes[b]
	x.ask(m.left, n.left)
	x.ask(m.right, n.right)
}
