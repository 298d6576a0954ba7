package lia

import (
	"avow/num"
	"avow/rat"
)

// turnsInHaste: so many turns a line are made in haste.
const turnsInHaste = 5

// repair brings all quantities within their bounds. Where that can't be, it tells facts, each so many times, that come to 0 being below 0; else nothing, also if it gave up.
func (s *simplex) repair() sum {
	if l := s.crossed(); l != nil {
		return l
	}
	// In haste the quantity that is farthest off is turned by the one that makes lines grow least; that is soon done, but may go round and round. Turning the first by the first never does (Bland's rule).
	for turns := 0; !s.purse.empty(); turns++ {
		haste := turns < turnsInHaste*len(s.lines)
		home := s.outside(haste)
		if home == none {
			return nil
		}
		x := s.lines[home]
		up := s.isBelow(x.of)
		by := s.mover(x, up, haste)
		if by == none {
			return s.conflict(x, up)
		}
		s.turn(home, by, s.bound(x.of, !up).value)
	}
	return nil
}

// crossed tells the facts of two bounds of one quantity that can't both be, if there are any.
func (s *simplex) crossed() sum {
	s.purse.spend(len(s.sums))
	for at := range s.sums {
		low, high := s.lower[at], s.upper[at]
		if low.set && high.set && low.value.Cmp(high.value) > 0 {
			return s.together([]debt{{low, num.Of(1)}, {high, num.Of(1)}})
		}
	}
	return nil
}

// outside tells the line of a quantity that isn't within its bounds, of the farthest off, or of the first one; or none.
func (s *simplex) outside(farthest bool) int {
	s.purse.spend(len(s.lines))
	out := none
	var most rat.Rat
	for i, x := range s.lines {
		far := s.farOff(x.of)
		if far.Top().Sign() == 0 {
			continue
		}
		if out == none || farthest && far.Cmp(most) > 0 || !farthest && x.of < s.lines[out].of {
			out, most = i, far
		}
	}
	return out
}

// farOff tells how far a quantity is from its bounds; 0, if it is within them.
func (s *simplex) farOff(at int) rat.Rat {
	switch {
	case s.isBelow(at):
		return s.lower[at].value.Sub(s.value[at])
	case s.isAbove(at):
		return s.value[at].Sub(s.upper[at].value)
	}
	return rat.Rat{}
}

// mover tells a quantity that can bring what a line leads up, or down: the first one, or the one that is in the fewest lines; or none.
func (s *simplex) mover(x line, up, fewest bool) int {
	s.purse.spend(len(x.l))
	out, least := none, len(s.lines)+1
	for _, p := range x.l {
		if p.at == x.of || !s.mayGo(p.at, up == (p.n.Sign() > 0)) {
			continue
		}
		if !fewest {
			return p.at
		}
		if n := s.countLines(p.at, least); n < least {
			out, least = p.at, n
		}
	}
	return out
}

// countLines tells in how many lines a quantity is, if these are fewer than so many.
func (s *simplex) countLines(at, most int) int {
	out := 0
	for i, x := range s.lines {
		if x.l.of(at).Sign() != 0 {
			out++
		}
		if out == most {
			s.purse.spend(i)
			return out
		}
	}
	s.purse.spend(len(s.lines))
	return out
}

// conflict tells why what a line leads can't come up, or down, to its bound: all that could bring it there are at theirs.
func (s *simplex) conflict(x line, up bool) sum {
	l := make([]debt, len(x.l))
	for i, p := range x.l {
		l[i] = debt{s.bound(p.at, up == (p.n.Sign() > 0)), size(p.n)}
	}
	return s.together(l)
}

// debt: a bound, so many times.
type debt struct {
	b bound
	n num.Int
}

// together tells the facts of bounds, each so many times, in lowest terms; nothing, if it gave up.
func (s *simplex) together(l []debt) sum {
	all := num.Of(1)
	for _, d := range l {
		all = multiple(all, d.b.times)
		s.purse.spend(weight(all))
		if s.purse.empty() {
			return nil
		}
	}
	out := make([]part, len(l))
	for i, d := range l {
		out[i] = part{d.b.fact, d.n.Mul(quotient(all, d.b.times))}
	}
	return gather(out).lowest()
}
