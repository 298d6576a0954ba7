package smt

import (
	"math"
	"strconv"

	"avow/api"
)

// bank gives each term that it meets a number, the same to those that term.Same tells the same. Operands have lower ones than what is made of them.
type bank struct {
	funs    map[string]api.Fun
	entries []entry
	lists   [][]int // their terms' numbers; the empty one is 0
	numbers map[outline]int
	listIDs map[string]int // by the text of their terms' numbers
	known   map[place]int  // in terms whose lists are shared, they'd else be gone through once for each way to them
}

// entry: what is known of a term.
type entry struct {
	term    *api.Term // where it was met first; only read
	op      int
	name    string // of TApp
	parts   []int
	sort    int
	ground  bool
	size    int // as package term has it
	depth   int
	weight  int // so many terms and variables are copied with it, patterns too
	literal int // of a formula that has been asked for; else 0
}

// outline: the operator and all that it names, lists by their numbers.
type outline struct {
	op              int
	name, n         string
	sort            int
	list, vars, pat int
}

// place: where a list lies, and how long it is.
type place struct {
	first *api.Term
	n     int
}

func newBank(sig []api.Fun) *bank {
	b := &bank{funs: make(map[string]api.Fun, len(sig)), lists: [][]int{nil}, numbers: map[outline]int{}, listIDs: map[string]int{"": 0}, known: map[place]int{}}
	for _, f := range sig {
		if _, ok := b.funs[f.Name]; !ok {
			b.funs[f.Name] = f
		}
	}
	return b
}

// number tells the number of t, which package term takes.
func (b *bank) number(t *api.Term) int {
	key := outline{op: t.Op, list: b.list(t.L)}
	switch t.Op {
	case api.TNum:
		key.n = t.N
	case api.TApp:
		key.name = t.Name
	case api.TVar:
		key.name, key.sort = t.Name, t.Sort
	case api.TAll:
		key.vars, key.pat = b.bounds(t.Vars), b.list(t.Pat)
	}
	if number, ok := b.numbers[key]; ok {
		return number
	}
	number := len(b.entries)
	b.numbers[key] = number
	b.entries = append(b.entries, b.entry(t, key))
	return number
}

func (b *bank) list(l []api.Term) int {
	if len(l) == 0 {
		return 0
	}
	at := place{first: &l[0], n: len(l)}
	if id, ok := b.known[at]; ok {
		return id
	}
	numbers := make([]int, len(l))
	for i := range l {
		numbers[i] = b.number(&l[i])
	}
	b.known[at] = b.listID(numbers)
	return b.known[at]
}

// bounds tells the number of a list of variables, seen as terms.
func (b *bank) bounds(vars []api.Bound) int {
	l := make([]api.Term, len(vars))
	for i, v := range vars {
		l[i] = api.Term{Op: api.TVar, Name: v.Name, Sort: v.Sort}
	}
	return b.list(l)
}

func (b *bank) listID(numbers []int) int {
	text := keyOf(numbers)
	if id, ok := b.listIDs[text]; ok {
		return id
	}
	id := len(b.lists)
	b.listIDs[text] = id
	b.lists = append(b.lists, numbers)
	return id
}

// keyOf tells numbers as a text.
func keyOf(numbers []int) string {
	var text []byte
	for _, number := range numbers {
		text = strconv.AppendInt(append(text, ' '), int64(number), 10)
	}
	return string(text)
}

// entry tells what is known of a new term.
func (b *bank) entry(t *api.Term, of outline) entry {
	x := entry{term: t, op: of.op, name: of.name, parts: b.lists[of.list], ground: of.op != api.TVar && of.op != api.TAll, size: 1, weight: 1}
	for _, p := range x.parts {
		part := b.entries[p]
		x.ground = x.ground && part.ground
		x.size += part.size
		x.depth = max(x.depth, part.depth)
		x.weight = capped(x.weight, part.weight)
	}
	for _, list := range []int{of.vars, of.pat} {
		for _, p := range b.lists[list] {
			x.weight = capped(x.weight, b.entries[p].weight)
		}
	}
	x.depth++
	x.sort = b.sortOf(t, x.parts)
	return x
}

// sortOf tells the sort of t, which package term takes.
func (b *bank) sortOf(t *api.Term, parts []int) int {
	switch {
	case t.Op == api.TNum || t.Op >= api.TAdd && t.Op <= api.TMul:
		return api.SortInt
	case t.Op == api.TIte:
		return b.entries[parts[len(parts)-1]].sort
	case t.Op == api.TApp:
		return b.funs[t.Name].Out
	case t.Op == api.TVar:
		return t.Sort
	}
	return api.SortBool
}

// capped tells a and b together, or the greatest int, if that is less: patterns that share lists may be of any weight.
func capped(a, b int) int {
	if a > math.MaxInt-b {
		return math.MaxInt
	}
	return a + b
}

// used tells the signatures of the functions that were met, each once.
func (b *bank) used() []api.Fun {
	var out []api.Fun
	met := map[string]struct{}{}
	for _, x := range b.entries {
		if _, ok := met[x.name]; !ok && x.op == api.TApp {
			met[x.name] = struct{}{}
			out = append(out, b.funs[x.name])
		}
	}
	return out
}

// find tells the number of an operator of these, and true, if it was met.
func (b *bank) find(op int, parts ...int) (int, bool) {
	list, ok := b.listIDs[keyOf(parts)]
	if !ok {
		return 0, false
	}
	number, ok := b.numbers[outline{op: op, list: list}]
	return number, ok
}

// made tells the number of an operator of these, and true; false, if package term wouldn't take it.
func (b *bank) made(op int, parts ...int) (int, bool) {
	size, depth := 1, 0
	for _, p := range parts {
		size += b.entries[p].size
		depth = max(depth, b.entries[p].depth)
	}
	if size > api.MaxNodes || depth >= api.MaxDepth {
		return 0, false
	}
	return b.number(&api.Term{Op: op, L: b.terms(parts)}), true
}

// terms tells terms by their numbers. They share lists with those that were met.
func (b *bank) terms(numbers []int) []api.Term {
	out := make([]api.Term, len(numbers))
	for i, number := range numbers {
		out[i] = *b.entries[number].term
	}
	return out
}

// isConnective tells whether a formula's truth is told by that of its operands.
func (b *bank) isConnective(x *entry) bool {
	switch {
	case x.op == api.TEq:
		return b.entries[x.parts[0]].sort == api.SortBool
	case x.op == api.TIte:
		return x.sort == api.SortBool
	}
	return x.op >= api.TTrue && x.op <= api.TIff
}

// isOfNumbers tells whether an atom says something of numbers.
func (b *bank) isOfNumbers(x *entry) bool {
	switch x.op {
	case api.TLe, api.TLt:
		return true
	case api.TEq:
		return b.entries[x.parts[0]].sort == api.SortInt
	}
	return false
}
