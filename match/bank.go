package match

import (
	"strconv"

	"avow/api"
)

// Sorts by shape, beside those of package api: none, and any.
const (
	noSort  = 0
	anySort = -1
)

// symbol: the function that an operator is: its name, or its number's text, and how many operands it has.
type symbol struct {
	op    int
	text  string
	count int
}

// item: a ground term: its symbol and its operands, by numbers; its sort by shape; its size; where it stood first.
type item struct {
	symbol int
	parts  []int
	sort   int
	size   int
	term   *api.Term
}

// bank gives ground terms numbers, the same to those that are the same. Operands have lower ones than what is made of them.
type bank struct {
	symbols map[symbol]int
	numbers map[string]int // by keys
	items   []item
}

func newBank() *bank {
	return &bank{symbols: map[symbol]int{}, numbers: map[string]int{}}
}

// number tells the number of a ground term.
func (b *bank) number(t *api.Term) int {
	x := item{symbol: b.symbol(t), parts: make([]int, len(t.L)), size: 1, term: t}
	for i := range t.L {
		x.parts[i] = b.number(&t.L[i])
		x.size += b.items[x.parts[i]].size
	}
	key := keyOf(x.symbol, x.parts)
	if number, ok := b.numbers[key]; ok {
		return number
	}
	x.sort = b.sortOf(t.Op, x.parts)
	number := len(b.items)
	b.numbers[key] = number
	b.items = append(b.items, x)
	return number
}

// symbol tells the number of t's symbol.
func (b *bank) symbol(t *api.Term) int {
	s := symbol{op: t.Op, count: len(t.L)}
	switch t.Op {
	case api.TNum:
		s.text = t.N
	case api.TApp:
		s.text = t.Name
	}
	number, ok := b.symbols[s]
	if !ok {
		number = len(b.symbols)
		b.symbols[s] = number
	}
	return number
}

// sortOf tells the sort, by shape, of an operator with these operands.
func (b *bank) sortOf(op int, parts []int) int {
	switch {
	case op == api.TNum || op >= api.TAdd && op <= api.TMul:
		return api.SortInt
	case op >= api.TTrue && op <= api.TLt:
		return api.SortBool
	case op == api.TIte && len(parts) > 0:
		return b.items[parts[len(parts)-1]].sort
	case op == api.TApp:
		return anySort
	}
	return noSort
}

// keyOf tells a symbol and operands, or their classes, as a text.
func keyOf(symbol int, parts []int) string {
	key := strconv.AppendInt(nil, int64(symbol), 10)
	for _, p := range parts {
		key = append(key, ',')
		key = strconv.AppendInt(key, int64(p), 10)
	}
	return string(key)
}
