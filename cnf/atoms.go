package cnf

import (
	"slices"

	"avow/api"
)

// gatherer finds atoms, in the order in which they stand.
type gatherer struct {
	catalog *catalog
	seen    []bool // by numbers
	atoms   []int
}

// atoms tells the numbers of the atoms of formulas, each once.
func (c *catalog) atoms(formulas []int) []int {
	g := gatherer{catalog: c, seen: make([]bool, len(c.entries))}
	g.list(formulas)
	return g.atoms
}

func (g *gatherer) list(formulas []int) {
	for _, f := range formulas {
		if !g.seen[f] {
			g.seen[f] = true
			g.formula(f)
		}
	}
}

func (g *gatherer) formula(number int) {
	switch g.catalog.formula(number).(type) {
	case atom:
		g.atoms = append(g.atoms, number)
	default:
		g.list(g.catalog.operands(number))
	}
}

// copies tells these terms in memory of their own.
func (c *catalog) copies(numbers []int) []api.Term {
	out := make([]api.Term, len(numbers))
	for i, number := range numbers {
		out[i] = copied(c.entries[number].term)
	}
	return out
}

// copied tells t in memory of its own, with nothing in fields that say nothing.
func copied(t *api.Term) api.Term {
	out := api.Term{Op: t.Op, L: copiedList(t.L)}
	switch t.Op {
	case api.TNum:
		out.N = t.N
	case api.TApp:
		out.Name = t.Name
	case api.TVar:
		out.Name, out.Sort = t.Name, t.Sort
	case api.TAll:
		out.Vars, out.Pat = slices.Clone(t.Vars), copiedList(t.Pat)
	}
	return out
}

func copiedList(l []api.Term) []api.Term {
	if len(l) == 0 {
		return nil
	}
	out := make([]api.Term, len(l))
	for i := range l {
		out[i] = copied(&l[i])
	}
	return out
}
