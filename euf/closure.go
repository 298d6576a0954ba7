package euf

import "strconv"

// none: in place of a number, where there is none.
const none = -1

// congruence: in place of an assertion's number: two pairs are equal because what they are made of is.
const congruence = none

// closure keeps symbols, lists and terms as nodes, told by numbers, and the classes of those that are equal. A list is empty, or a pair of a list and one more term; a term is a pair of a symbol and a list. So what goes through operators goes through pairs, and a term of many operands isn't gone through whole when one of them changes its class.
type closure struct {
	nodes      []node
	numbers    map[string]int // by texts
	signatures map[signature]int
	signed     []signature // those of signatures, in the order in which they came to be
	merges     []merge
	aparts     []apart
	refuted    bool  // there is a conflict
	conflict   apart // the first one: its two are equal
	pending    []link
}

// node: a symbol or the empty list, which have no parts; or a pair.
type node struct {
	text        string // under which it is kept
	left, right int    // its parts
	uses        []int  // the pairs of which it is a part
	aparts      []int  // those of closure.aparts of which it is a side
	class       int    // the node that stands for its class
	next        int    // the next one of its class, which is a ring
	size        int    // of the class that it stands for: so many nodes
	numeral     int    // of the class that it stands for: a number in it
	up          int    // links make a class a tree: the one that it is linked to
	reason      int    // for that
}

// signature: the classes of a pair's parts. Pairs of one signature are equal. One of a class that has gone into another stays, as it is right again once that is taken back, and isn't asked till then.
type signature struct{ left, right int }

// link: two that are equal, by an assertion, or by congruence.
type link struct{ a, b, reason int }

// merge: a class that went into another, by a link.
type merge struct {
	small, large int
	link         link
	numeral      bool // the greater one has its number from the smaller one
}

// apart: two that aren't to be equal, by an assertion, or (none) whatever is asserted.
type apart struct{ a, b, number int }

func newClosure() *closure {
	return &closure{numbers: map[string]int{}, signatures: map[signature]int{}}
}

// leaf tells the node of what has no parts.
func (c *closure) leaf(text string) int {
	if number, ok := c.numbers[text]; ok {
		return number
	}
	return c.add(text, none, none)
}

// pair tells the node of a pair. A new one is brought into its class at once.
func (c *closure) pair(left, right int) int {
	// No leaf has such a text: it is empty, or has a space in it.
	text := strconv.Itoa(left) + "," + strconv.Itoa(right)
	if number, ok := c.numbers[text]; ok {
		return number
	}
	number := c.add(text, left, right)
	c.nodes[left].uses = append(c.nodes[left].uses, number)
	c.nodes[right].uses = append(c.nodes[right].uses, number)
	c.sign(number)
	c.settle()
	return number
}

// add makes a new node, in a class of its own.
func (c *closure) add(text string, left, right int) int {
	number := len(c.nodes)
	c.numbers[text] = number
	c.nodes = append(c.nodes, node{text: text, left: left, right: right, class: number, next: number, size: 1, numeral: none, up: none, reason: none})
	return number
}

func (c *closure) equal(a, b int) bool { return c.nodes[a].class == c.nodes[b].class }

// part says that two aren't to be equal. Where there is a conflict, another one would say nothing.
func (c *closure) part(x apart) {
	if c.equal(x.a, x.b) {
		c.refute(x)
	}
	if c.refuted {
		return
	}
	c.nodes[x.a].aparts = append(c.nodes[x.a].aparts, len(c.aparts))
	c.nodes[x.b].aparts = append(c.nodes[x.b].aparts, len(c.aparts))
	c.aparts = append(c.aparts, x)
}

// refute keeps a conflict, if it is the first one.
func (c *closure) refute(x apart) {
	if !c.refuted {
		c.refuted, c.conflict = true, x
	}
}

// join makes two equal, and all that are equal then.
func (c *closure) join(l link) {
	c.pending = append(c.pending, l)
	c.settle()
}

func (c *closure) settle() {
	for i := 0; i < len(c.pending); i++ {
		c.merge(c.pending[i])
	}
	c.pending = c.pending[:0]
}

// merge makes the classes of two one, unless they are. The smaller one goes into the greater one, so that no node changes its class often.
func (c *closure) merge(l link) {
	small, large := c.nodes[l.a].class, c.nodes[l.b].class
	if small == large {
		return
	}
	if c.nodes[small].size > c.nodes[large].size {
		small, large = large, small
		l.a, l.b = l.b, l.a
	}
	members := c.members(small)
	for _, m := range members {
		c.nodes[m].class = large
	}
	c.hang(l)
	numeral := c.joinNumerals(small, large)
	c.joinRings(small, large)
	c.nodes[large].size += c.nodes[small].size
	c.merges = append(c.merges, merge{small, large, l, numeral})
	for _, m := range members {
		c.lookApart(m)
		c.signUses(m)
	}
}

// members tells all nodes of a class.
func (c *closure) members(class int) []int {
	out := make([]int, 0, c.nodes[class].size)
	for m := class; len(out) < cap(out); m = c.nodes[m].next {
		out = append(out, m)
	}
	return out
}

// joinRings makes two rings one; and one that it made so, two.
func (c *closure) joinRings(a, b int) {
	c.nodes[a].next, c.nodes[b].next = c.nodes[b].next, c.nodes[a].next
}

// joinNumerals tells whether the greater class has its number from the smaller one. Two numbers are never equal.
func (c *closure) joinNumerals(small, large int) bool {
	a, b := c.nodes[small].numeral, c.nodes[large].numeral
	if a != none && b != none {
		c.refute(apart{a, b, none})
	}
	if a == none || b != none {
		return false
	}
	c.nodes[large].numeral = a
	return true
}

// hang links a to b. The links on a's way up are turned round for that, as a node has just one up.
func (c *closure) hang(l link) {
	at, up, reason := l.a, l.b, l.reason
	for at != none {
		n := &c.nodes[at]
		at, up, reason, n.up, n.reason = n.up, at, n.reason, up, reason
	}
}

// lookApart looks whether a node that changed its class is now equal to one that it isn't to be.
func (c *closure) lookApart(number int) {
	for _, i := range c.nodes[number].aparts {
		if x := c.aparts[i]; c.equal(x.a, x.b) {
			c.refute(x)
		}
	}
}

func (c *closure) signUses(number int) {
	for _, pair := range c.nodes[number].uses {
		c.sign(pair)
	}
}

// sign keeps a pair under its signature, or has it linked to the one that is kept there.
func (c *closure) sign(pair int) {
	n := &c.nodes[pair]
	s := signature{c.nodes[n.left].class, c.nodes[n.right].class}
	if other, ok := c.signatures[s]; ok {
		c.pending = append(c.pending, link{pair, other, congruence})
		return
	}
	c.signatures[s] = pair
	c.signed = append(c.signed, s)
}
