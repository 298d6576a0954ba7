package cert

import (
	"strconv"

	"avow/api"
)

const (
	// deepest: so many parts may be nested in one another; what lies deeper isn't gone into, so that every walk ends.
	deepest = 1 << 16
	// within: known of a list while it is gone through: one that is come to within itself has no end.
	within = -1
)

// bank gives each term that it meets a number, the same to those that term.Same tells the same: Same holds one term against another, a bank one against all at once.
type bank struct {
	items   []item
	lists   [][]int // their terms' numbers; the empty one is 0
	numbers map[outline]int
	listIDs map[string]int // by the text of their terms' numbers
	known   map[place]int  // in terms whose lists are shared, they'd else be gone through once for each way to them
}

// item: an operator, and its operands' numbers.
type item struct {
	op    int
	parts []int
}

// outline: the operator and all that it names, lists by their numbers.
type outline struct {
	op              int
	name, n         string
	sort            int
	list, vars, pat int
}

// place: where a list lies, and how long it is.
type place struct {
	first *api.Term
	n     int
}

func newBank() *bank {
	return &bank{lists: [][]int{nil}, numbers: map[outline]int{}, listIDs: map[string]int{"": 0}, known: map[place]int{}}
}

// number tells the number of t, and true; false, if t is too deep to be gone through, or has no end.
func (b *bank) number(t *api.Term) (int, bool) { return b.term(t, 0) }

func (b *bank) term(t *api.Term, under int) (int, bool) {
	list, ok := b.list(t.L, under+1)
	if !ok {
		return 0, false
	}
	key := outline{op: t.Op, list: list}
	switch t.Op {
	case api.TNum:
		key.n = t.N
	case api.TApp:
		key.name = t.Name
	case api.TVar:
		key.name, key.sort = t.Name, t.Sort
	case api.TAll:
		key.vars = b.bounds(t.Vars)
		if key.pat, ok = b.list(t.Pat, under+1); !ok {
			return 0, false
		}
	}
	return b.enter(key), true
}

// enter tells the number of what has this outline.
func (b *bank) enter(key outline) int {
	if number, ok := b.numbers[key]; ok {
		return number
	}
	number := len(b.items)
	b.numbers[key] = number
	b.items = append(b.items, item{key.op, b.lists[key.list]})
	return number
}

func (b *bank) list(l []api.Term, under int) (int, bool) {
	if len(l) == 0 {
		return 0, true
	}
	at := place{first: &l[0], n: len(l)}
	if id, ok := b.known[at]; ok {
		return id, id != within
	}
	b.known[at] = within
	numbers, ok := b.terms(l, under)
	if !ok {
		delete(b.known, at)
		return 0, false
	}
	b.known[at] = b.listID(numbers)
	return b.known[at], true
}

func (b *bank) terms(l []api.Term, under int) ([]int, bool) {
	if under > deepest {
		return nil, false
	}
	out := make([]int, len(l))
	for i := range l {
		var ok bool
		if out[i], ok = b.term(&l[i], under); !ok {
			return nil, false
		}
	}
	return out, true
}

// bounds tells the number of a list of variables, seen as terms.
func (b *bank) bounds(vars []api.Bound) int {
	numbers := make([]int, len(vars))
	for i, v := range vars {
		numbers[i] = b.enter(outline{op: api.TVar, name: v.Name, sort: v.Sort})
	}
	return b.listID(numbers)
}

func (b *bank) listID(numbers []int) int {
	var text []byte
	for _, number := range numbers {
		text = strconv.AppendInt(append(text, ' '), int64(number), 10)
	}
	if id, ok := b.listIDs[string(text)]; ok {
		return id
	}
	id := len(b.lists)
	b.listIDs[string(text)] = id
	b.lists = append(b.lists, numbers)
	return id
}

// literal tells a literal as rup has it: its atom's number and 1, below 0 for its opposite.
func (b *bank) literal(l *api.Lit) (int, bool) {
	number, ok := b.number(&l.Atom)
	if l.Neg {
		return -number - 1, ok
	}
	return number + 1, ok
}

// clause tells a clause as rup has it, and true; false, if an atom has no number.
func (b *bank) clause(c []api.Lit) ([]int, bool) {
	out := make([]int, len(c))
	for i := range c {
		var ok bool
		if out[i], ok = b.literal(&c[i]); !ok {
			return nil, false
		}
	}
	return out, true
}

// ahead tells the clauses of have; one with an atom that has no number is left out: then less follows, never more.
func (b *bank) ahead(have [][]api.Lit) [][]int {
	var out [][]int
	for _, c := range have {
		if clause, ok := b.clause(c); ok {
			out = append(out, clause)
		}
	}
	return out
}
