package term

import "avow/api"

// notGround: in place of the number of a term, or of a list, that isn't ground.
const notGround = -1

// longer: a list, told by its number, and one more term, by its own.
type longer struct{ list, last int }

// made: a ground term, told by its label, and the number of its operands' list.
type made struct {
	label label
	list  int
}

// collector gives each ground term that it meets a number, the same to those that are the same; so with lists, of which the empty one is 0.
type collector struct {
	terms   map[made]int
	lists   map[longer]int
	known   map[listKey]int
	apps    []*api.Term // in the order in which they ended
	tooDeep bool
}

// groundApps tells the ground TApps in t that Apps asks for, where they stand first.
func groundApps(t *api.Term) []*api.Term {
	c := collector{terms: map[made]int{}, lists: map[longer]int{}, known: map[listKey]int{}}
	c.term(t, 0)
	if c.tooDeep {
		return nil
	}
	return c.apps
}

func (c *collector) term(t *api.Term, under int) int {
	n := view(t)
	if _, ok := n.(universal); ok {
		return notGround
	}
	list := c.list(t.L, under+1)
	if _, ok := n.(variable); ok || list == notGround {
		return notGround
	}
	key := made{label: labelOf(n), list: list}
	if number, ok := c.terms[key]; ok {
		return number
	}
	number := len(c.terms)
	c.terms[key] = number
	if _, ok := n.(application); ok {
		c.apps = append(c.apps, t)
	}
	return number
}

func (c *collector) list(l []api.Term, under int) int {
	if len(l) == 0 {
		return 0
	}
	if number, ok := c.known[keyOf(l)]; ok {
		return number
	}
	c.tooDeep = c.tooDeep || under > deepest
	number := 0
	for i := range l {
		if c.tooDeep {
			return notGround
		}
		number = c.join(number, c.term(&l[i], under))
	}
	c.known[keyOf(l)] = number
	return number
}

// join tells the number of a list and one more term.
func (c *collector) join(list, last int) int {
	if list == notGround || last == notGround {
		return notGround
	}
	key := longer{list, last}
	if number, ok := c.lists[key]; ok {
		return number
	}
	number := len(c.lists) + 1
	c.lists[key] = number
	return number
}

// copies tells l's terms in memory of their own; none, if they would be too great together.
func copies(l []*api.Term) []api.Term {
	var m measurer
	total := 0
	for _, t := range l {
		total = capped(total, m.term(t, 0).size)
	}
	if total > mostCopied {
		return nil
	}
	var c copier
	out := make([]api.Term, len(l))
	for i, t := range l {
		out[i] = c.term(t, 0)
	}
	return out
}
