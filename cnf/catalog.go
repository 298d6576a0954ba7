package cnf

import (
	"math"
	"strconv"

	"avow/api"
)

const (
	// deepest: so many parts may be nested in one another; what lies deeper isn't gone into, so that every walk ends, of lists that contain themselves too.
	deepest = 1 << 16
	// mostCopied: an answer of at most 2^31 - 1 bytes has no more terms, as each takes over 100.
	mostCopied = math.MaxInt32 / 100
)

// catalog gives each term that it meets a number, the same to those that term.Same tells the same: Same holds one term against another, a catalog one against all at once.
type catalog struct {
	entries    []entry
	lists      [][]int // their terms' numbers; the empty one is 0
	numbers    map[outline]int
	listIDs    map[string]int // by the text of their terms' numbers
	known      map[place]int  // in formulas whose lists are shared, they'd else be gone through once for each way to them
	quantified bool           // a TAll was met
	tooDeep    bool           // nothing in here is right
}

// entry: a term, where it was met first (memory of the caller's, and so only read).
type entry struct {
	term    *api.Term
	list    int  // its operands
	size    int  // so many terms and variables, patterns too
	formula bool // by its shape
}

// outline: the operator and all that it names, lists by their numbers.
type outline struct {
	op              int
	name, n         string
	sort            int
	list, vars, pat int
}

// place: where a list lies, and how long it is.
type place struct {
	first *api.Term
	n     int
}

func newCatalog() *catalog {
	return &catalog{lists: [][]int{nil}, numbers: map[outline]int{}, listIDs: map[string]int{"": 0}, known: map[place]int{}}
}

// enter tells the numbers of l's terms.
func (c *catalog) enter(l []api.Term) []int { return c.lists[c.list(l, 0)] }

func (c *catalog) term(t *api.Term, under int) int {
	key := outline{op: t.Op, list: c.list(t.L, under+1)}
	switch t.Op {
	case api.TNum:
		key.n = t.N
	case api.TApp:
		key.name = t.Name
	case api.TVar:
		key.name, key.sort = t.Name, t.Sort
	case api.TAll:
		c.quantified = true
		key.vars, key.pat = c.bounds(t.Vars), c.list(t.Pat, under+1)
	}
	if number, ok := c.numbers[key]; ok {
		return number
	}
	number := len(c.entries)
	c.numbers[key] = number
	size := capped(1, capped(c.sizeOf(key.list), capped(c.sizeOf(key.vars), c.sizeOf(key.pat))))
	c.entries = append(c.entries, entry{term: t, list: key.list, size: size, formula: c.shaped(key)})
	return number
}

func (c *catalog) list(l []api.Term, under int) int {
	if len(l) == 0 {
		return 0
	}
	at := place{first: &l[0], n: len(l)}
	if id, ok := c.known[at]; ok {
		return id
	}
	c.tooDeep = c.tooDeep || under > deepest
	numbers := make([]int, 0, len(l))
	for i := range l {
		if c.tooDeep {
			return 0
		}
		numbers = append(numbers, c.term(&l[i], under))
	}
	id := c.listID(numbers)
	c.known[at] = id
	return id
}

// bounds tells the number of a list of variables, seen as terms.
func (c *catalog) bounds(vars []api.Bound) int {
	numbers := make([]int, len(vars))
	for i, v := range vars {
		numbers[i] = c.term(&api.Term{Op: api.TVar, Name: v.Name, Sort: v.Sort}, 0)
	}
	return c.listID(numbers)
}

func (c *catalog) listID(numbers []int) int {
	var text []byte
	for _, number := range numbers {
		text = strconv.AppendInt(append(text, ' '), int64(number), 10)
	}
	if id, ok := c.listIDs[string(text)]; ok {
		return id
	}
	id := len(c.lists)
	c.listIDs[string(text)] = id
	c.lists = append(c.lists, numbers)
	return id
}

// operands tells the numbers of a term's operands.
func (c *catalog) operands(number int) []int { return c.lists[c.entries[number].list] }

func (c *catalog) sizeOf(list int) int {
	size := 0
	for _, number := range c.lists[list] {
		size = capped(size, c.entries[number].size)
	}
	return size
}

// capped tells a and b together, or the greatest int, if that is less: sizes of terms with shared lists may be any.
func capped(a, b int) int {
	if a > math.MaxInt-b {
		return math.MaxInt
	}
	return a + b
}

// shaped tells whether a term is told as a formula by its shape.
func (c *catalog) shaped(of outline) bool {
	if of.op == api.TIte {
		return c.ofFormulas(of.list)
	}
	return of.op >= api.TTrue && of.op <= api.TLt || of.op == api.TAll
}

// ofFormulas tells whether a list's last term is told as a formula by its shape.
func (c *catalog) ofFormulas(list int) bool {
	l := c.lists[list]
	return len(l) > 0 && c.entries[l[len(l)-1]].formula
}

// tooGreat tells whether copies of these terms would be more than an answer may be.
func (c *catalog) tooGreat(numbers []int) bool {
	total := 0
	for _, number := range numbers {
		total = capped(total, c.entries[number].size)
	}
	return total > mostCopied
}
