package match

import (
	"cmp"
	"slices"
	"strings"

	"avow/api"
	"avow/term"
)

// ranksOf tells which place each term has in the order of their Texts; those of one Text have the same.
func ranksOf(items []item) []int {
	texts := make([]string, len(items))
	order := make([]int, len(items))
	for i, x := range items {
		texts[i], order[i] = term.Text(*x.term), i
	}
	slices.SortFunc(order, func(a, b int) int { return compareTexts(texts[a], texts[b]) })
	ranks := make([]int, len(items))
	for i := 1; i < len(order); i++ {
		ranks[order[i]] = ranks[order[i-1]]
		if texts[order[i]] != texts[order[i-1]] {
			ranks[order[i]]++
		}
	}
	return ranks
}

func compareTexts(a, b string) int {
	if len(a) != len(b) {
		return cmp.Compare(len(a), len(b))
	}
	return strings.Compare(a, b)
}

// choose tells, by classes, which of its subterms is told for a variable of the sort.
func choose(subterms []item, classes, ranks []int, sort int) map[int]int {
	out := map[int]int{}
	for i, x := range subterms {
		if x.sort != sort && x.sort != anySort {
			continue
		}
		if first, ok := out[classes[i]]; !ok || ranks[i] < ranks[first] {
			out[classes[i]] = i
		}
	}
	return out
}

// tell tells the lists that were found, in order; of lists of the same Texts those are first whose terms stood first.
func tell(subterms []item, ranks []int, found [][]int) [][]api.Term {
	byRanks := func(a, b int) int { return cmp.Compare(ranks[a], ranks[b]) }
	slices.SortFunc(found, func(a, b []int) int {
		if c := slices.CompareFunc(a, b, byRanks); c != 0 {
			return c
		}
		return slices.Compare(a, b)
	})
	out := make([][]api.Term, len(found))
	for i, numbers := range found {
		out[i] = make([]api.Term, len(numbers))
		for place, number := range numbers {
			out[i][place] = copyOf(subterms[number].term)
		}
	}
	return out
}

// copyOf tells a ground term in memory of its own, with nothing in fields that its operator doesn't name.
func copyOf(t *api.Term) api.Term {
	out := api.Term{Op: t.Op}
	switch t.Op {
	case api.TNum:
		out.N = t.N
	case api.TApp:
		out.Name = t.Name
	}
	if len(t.L) > 0 {
		out.L = make([]api.Term, len(t.L))
	}
	for i := range t.L {
		out.L[i] = copyOf(&t.L[i])
	}
	return out
}
