package match

// head: how a class is made of others by a symbol.
type head struct {
	parts []int
	class int
}

// table: the classes of terms that are equal, each told by the first term in it, and all that is made of them. What isn't made there is equal to none of the terms that there are.
type table struct {
	classes []int          // by terms
	heads   [][]head       // by symbols
	known   map[string]int // the same, by keys
}

func newTable(b *bank, equations [][2]int) *table {
	t := &table{classes: make([]int, len(b.items)), heads: make([][]head, len(b.symbols)), known: map[string]int{}}
	j := newJudge(b, equations)
	firsts := map[int]int{} // by tags
	for i, x := range b.items {
		parts := make([]int, len(x.parts))
		for k, p := range x.parts {
			parts[k] = t.classes[p]
		}
		key := keyOf(x.symbol, parts)
		class, ok := t.known[key]
		if !ok {
			class = firstOf(firsts, j.tag(i), i)
			t.known[key] = class
			t.heads[x.symbol] = append(t.heads[x.symbol], head{parts, class})
		}
		t.classes[i] = class
	}
	return t
}

// firstOf tells the first term with a tag: the i-th, if there was none, or it has no tag.
func firstOf(firsts map[int]int, tag, i int) int {
	if tag == 0 {
		return i
	}
	if _, ok := firsts[tag]; !ok {
		firsts[tag] = i
	}
	return firsts[tag]
}

// worth tells the class of a part of a pattern under a list of classes, and true; or false, if it has none.
func (t *table) worth(n node, list []int) (int, bool) {
	if x, ok := n.(hole); ok {
		return list[x.place], true
	}
	x, ok := n.(made)
	if !ok {
		return 0, false
	}
	parts := make([]int, len(x.parts))
	for i, p := range x.parts {
		class, ok := t.worth(p, list)
		if !ok {
			return 0, false
		}
		parts[i] = class
	}
	class, ok := t.known[keyOf(x.symbol, parts)]
	return class, ok
}
