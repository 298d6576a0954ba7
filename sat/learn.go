package sat

import (
	"cmp"
	"slices"
)

const (
	// firstRoom: so many learnt clauses are kept; more of them each time that half of them have been given up.
	firstRoom = 2000
	moreRoom  = 500
	// fewLevels: clauses that hang on so few decisions are kept for good.
	fewLevels = 2
)

// learn adds a clause that the conflict shows, to the trace too, goes back as far as it says something there, and sets what it says.
func (s *search) learn(conflict int) {
	l := s.shortened(s.derived(conflict))
	levels := s.levelsOf(l)
	s.order.decay()
	s.tell(l)
	if len(l) == 1 {
		s.back(0)
		s.set(l[0], none)
		return
	}
	deepest := 1
	for i := range l {
		if i > 0 && s.level[l[i].place()] > s.level[l[deepest].place()] {
			deepest = i
		}
	}
	l[1], l[deepest] = l[deepest], l[1]
	s.back(s.level[l[1].place()])
	at := s.add(clause{l: l, levels: levels})
	s.learned = append(s.learned, at)
	s.set(l[0], at)
	if len(s.learned) > s.room {
		s.giveUp()
	}
}

// tell adds a clause to the trace.
func (s *search) tell(l []literal) {
	out := make([]int, len(l))
	for i, x := range l {
		out[i] = x.number()
	}
	s.trace = append(s.trace, out)
	s.told += 24 + 8*len(out)
}

// derived resolves the conflict with the reasons of its literals, the last ones first, until just one is left that came with the last decision or behind it: that one stands first. What holds without decisions is left out. The literals that it tells stay marked.
func (s *search) derived(conflict int) []literal {
	l := []literal{0}
	reason, open, at := conflict, 0, len(s.trail)
	for {
		for _, y := range s.clauses[reason].l {
			place := y.place()
			if s.marks[y] || s.truth[y] == isTrue || s.level[place] == 0 {
				continue
			}
			s.marks[y] = true
			s.order.raise(place)
			if s.level[place] == len(s.starts) {
				open++
			} else {
				l = append(l, y)
			}
		}
		at--
		for !s.marks[s.trail[at].opposite()] {
			at--
		}
		x := s.trail[at].opposite()
		open--
		if open == 0 {
			l[0] = x
			return l
		}
		s.marks[x] = false
		reason = s.reason[x.place()]
	}
}

// shortened leaves out literals of which a reason says that they are false if the others are; it takes the marks away.
func (s *search) shortened(l []literal) []literal {
	out := []literal{l[0]}
	for _, x := range l[1:] {
		if !s.implied(x) {
			out = append(out, x)
		}
	}
	for _, x := range l {
		s.marks[x] = false
	}
	return out
}

func (s *search) implied(x literal) bool {
	reason := s.reason[x.place()]
	if reason == none {
		return false
	}
	for _, y := range s.clauses[reason].l {
		if y != x.opposite() && !s.marks[y] && s.level[y.place()] > 0 {
			return false
		}
	}
	return true
}

// levelsOf tells how many levels literals are of.
func (s *search) levelsOf(l []literal) int {
	levels := make([]int, len(l))
	for i, x := range l {
		levels[i] = s.level[x.place()]
	}
	slices.Sort(levels)
	return len(slices.Compact(levels))
}

// giveUp forgets the worse half of the learnt clauses, but for those that are worth much, or a reason just now: with too many of them the search is slow. The trace keeps all.
func (s *search) giveUp() {
	slices.SortFunc(s.learned, func(a, b int) int {
		return cmp.Or(cmp.Compare(s.clauses[a].levels, s.clauses[b].levels), cmp.Compare(b, a))
	})
	half := len(s.learned) / 2
	kept := s.learned[:half]
	for _, at := range s.learned[half:] {
		if s.clauses[at].levels <= fewLevels || s.isReason(at) {
			kept = append(kept, at)
		} else {
			s.clauses[at].l = nil
		}
	}
	s.learned = kept
	s.room += moreRoom
	for i, list := range s.watches {
		s.watches[i] = slices.DeleteFunc(list, func(w watch) bool { return s.clauses[w.clause].l == nil })
	}
}

func (s *search) isReason(at int) bool {
	x := s.clauses[at].l[0]
	return s.truth[x] == isTrue && s.reason[x.place()] == at
}
