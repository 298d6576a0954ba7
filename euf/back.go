package euf

// point: what there was of a closure, so that what came behind it can be taken back.
type point struct {
	nodes, signed, merges, aparts int
	refuted                       bool
	conflict                      apart
}

func (c *closure) point() point {
	return point{len(c.nodes), len(c.signed), len(c.merges), len(c.aparts), c.refuted, c.conflict}
}

// back takes back all that came behind p, the last first.
func (c *closure) back(p point) {
	for i := len(c.aparts) - 1; i >= p.aparts; i-- {
		c.nodes[c.aparts[i].a].dropApart()
		c.nodes[c.aparts[i].b].dropApart()
	}
	for i := len(c.merges) - 1; i >= p.merges; i-- {
		c.unmerge(c.merges[i])
	}
	for _, s := range c.signed[p.signed:] {
		delete(c.signatures, s)
	}
	for i := len(c.nodes) - 1; i >= p.nodes; i-- {
		c.drop(i)
	}
	clear(c.nodes[p.nodes:])
	c.nodes, c.signed, c.merges, c.aparts = c.nodes[:p.nodes], c.signed[:p.signed], c.merges[:p.merges], c.aparts[:p.aparts]
	c.refuted, c.conflict = p.refuted, p.conflict
}

// unmerge takes back the last merge that there is.
func (c *closure) unmerge(m merge) {
	large := &c.nodes[m.large]
	large.size -= c.nodes[m.small].size
	if m.numeral {
		large.numeral = none
	}
	c.joinRings(m.small, m.large)
	for _, x := range c.members(m.small) {
		c.nodes[x].class = m.small
	}
	c.cut(m.link)
}

// cut takes away the link between two, whichever of them has come to be above the other one since.
func (c *closure) cut(l link) {
	at := l.a
	if c.nodes[at].up != l.b {
		at = l.b
	}
	c.nodes[at].up, c.nodes[at].reason = none, none
}

// drop takes away the last node that there is, which is in no class with others.
func (c *closure) drop(number int) {
	n := c.nodes[number]
	delete(c.numbers, n.text)
	if n.left != none {
		c.nodes[n.left].dropUse()
		c.nodes[n.right].dropUse()
	}
}

func (n *node) dropUse() { n.uses = n.uses[:len(n.uses)-1] }

func (n *node) dropApart() { n.aparts = n.aparts[:len(n.aparts)-1] }
