package euf

import (
	"strconv"

	"avow/api"
)

// deepest: so many parts may be nested in one another; what lies deeper isn't gone into, so that every walk ends, of lists that contain themselves too.
const deepest = 1 << 16

// reader enters terms into a closure.
type reader struct {
	closure *closure
	empty   int
	known   map[place]int // in terms whose lists are shared, they'd else be gone through once for each way to them
	tooDeep bool          // what was entered isn't all that stands there
}

// place: where a list lies, and how long it is.
type place struct {
	first *api.Term
	n     int
}

func newReader(c *closure) *reader {
	return &reader{closure: c, empty: c.leaf(""), known: map[place]int{}}
}

// term tells the node of a ground term.
func (r *reader) term(t *api.Term, under int) int {
	list := r.list(t.L, under+1)
	number := r.closure.pair(r.closure.leaf(symbol(t)), list)
	if t.Op == api.TNum && list == r.empty {
		r.closure.nodes[number].numeral = number
	}
	return number
}

// symbol tells the text of the function that t's operator is: how many operands it has is told by their list.
func symbol(t *api.Term) string {
	text := strconv.Itoa(t.Op) + " "
	switch t.Op {
	case api.TNum:
		return text + t.N
	case api.TApp:
		return text + t.Name
	}
	return text
}

func (r *reader) list(l []api.Term, under int) int {
	if len(l) == 0 {
		return r.empty
	}
	at := place{first: &l[0], n: len(l)}
	if number, ok := r.known[at]; ok {
		return number
	}
	r.tooDeep = r.tooDeep || under > deepest
	number := r.empty
	for i := range l {
		if r.tooDeep {
			return r.empty
		}
		number = r.closure.pair(number, r.term(&l[i], under))
	}
	r.known[at] = number
	return number
}
