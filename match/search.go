package match

import (
	"maps"
	"math"
	"slices"
)

// mostTold: an answer of at most 2^31 - 1 bytes has no more operators, as each takes over 100; beyond that it is given up.
const mostTold = math.MaxInt32 / 100

// search goes through the variables one by one. Ahead of each of them it leaves out what can't be any more, so that it seldom goes on where nothing is found.
type search struct {
	patterns []node
	table    *table
	subterms []item
	wanted   set           // the classes of the subterms
	choices  []map[int]int // by places: of each class the subterm that is told
	may      []set         // by places: the classes that a variable may still be of
	list     []int         // by places: the class that it is tried with
	found    [][]int       // subterms, by numbers
	terms    int           // so many operators stand in what was found
}

func newSearch(patterns []node, t *table, subterms []item) *search {
	wanted := set{}
	for i := range subterms {
		wanted.add(t.classes[i])
	}
	return &search{patterns: patterns, table: t, subterms: subterms, wanted: wanted}
}

// addVariable adds one that may be of each class that has a choice.
func (s *search) addVariable(choice map[int]int) {
	may := set{}
	for class := range choice {
		may.add(class)
	}
	s.choices = append(s.choices, choice)
	s.may = append(s.may, may)
	s.list = append(s.list, 0)
}

func (s *search) tooGreat() bool { return s.terms > mostTold }

// from finds all lists that go on from the place on.
func (s *search) from(place int) {
	if place == len(s.list) {
		s.keep()
		return
	}
	before := s.may
	s.may = slices.Clone(before)
	if s.narrow() {
		s.each(place)
	}
	s.may = before
}

// each goes on with each class that the variable may be of.
func (s *search) each(place int) {
	for _, class := range slices.Sorted(maps.Keys(s.may[place])) {
		if s.tooGreat() {
			return
		}
		s.list[place] = class
		s.may[place] = set{class: {}}
		s.from(place + 1)
	}
}

// keep keeps the list, if the patterns are there under it.
func (s *search) keep() {
	for _, p := range s.patterns {
		class, ok := s.table.worth(p, s.list)
		if !ok || !s.wanted.has(class) {
			return
		}
	}
	numbers := make([]int, len(s.list))
	for place, class := range s.list {
		numbers[place] = s.choices[place][class]
		s.terms += s.subterms[numbers[place]].size
	}
	s.found = append(s.found, numbers)
}
