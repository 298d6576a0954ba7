package lia

import (
	"avow/num"
	"avow/rat"
)

// none: in place of a number, where there is none.
const none = -1

// bound: what a quantity is at most, or at least; and the fact that says so, of the quantity so many times.
type bound struct {
	set   bool
	value rat.Rat
	fact  int
	times num.Int
}

// simplex keeps quantities: the names, and sums of names. Each has a value, such that sums are worth what their names are, and may have bounds. There are as many that lead as there are names, and these are within their bounds; each of the others is led by its line.
type simplex struct {
	purse        *purse
	names        int   // so many quantities are names, the first ones
	sums         []sum // by quantities: of names
	value        []rat.Rat
	lower, upper []bound
	home         []int // by quantities: its line, or none, if it leads
	lines        []line
}

// line: l comes to 0. What the line leads is in it so many times below 0; all others in it lead.
type line struct {
	of int
	l  sum
}

func newSimplex(names int, p *purse) *simplex {
	s := &simplex{purse: p, names: names}
	for i := range names {
		s.enter(single(i), rat.Rat{}, none)
	}
	return s
}

// enter adds a quantity, and tells its number.
func (s *simplex) enter(l sum, value rat.Rat, home int) int {
	s.sums, s.value, s.home = append(s.sums, l), append(s.value, value), append(s.home, home)
	s.lower, s.upper = append(s.lower, bound{}), append(s.upper, bound{})
	return len(s.sums) - 1
}

// add adds a sum of names as a quantity that is led.
func (s *simplex) add(l sum) int {
	at := s.enter(l, s.worth(l), len(s.lines))
	out := mix(num.Of(1), l, num.Of(-1), single(at))
	for _, p := range l {
		if home := s.home[p.at]; home != none && !s.purse.empty() {
			x := s.lines[home].l
			out = mix(size(x.of(p.at)), out, out.of(p.at), x).lowest()
			s.purse.spend(out.weight())
		}
	}
	s.lines = append(s.lines, line{at, out})
	return at
}

// worth tells the value of a sum of names.
func (s *simplex) worth(l sum) rat.Rat {
	var out rat.Rat
	for _, p := range l {
		out = out.Add(s.value[p.at].Mul(rat.Whole(p.n)))
		s.purse.spend(weight(out.Top()))
	}
	return out
}

// drop takes the last quantity away, which must have no bounds any more.
func (s *simplex) drop() {
	last, end := len(s.sums)-1, len(s.lines)-1
	if s.home[last] == none {
		s.follow(last)
	}
	home := s.home[last]
	if home == none { // The purse is empty.
		return
	}
	s.lines[home] = s.lines[end]
	s.home[s.lines[home].of] = home
	s.lines = s.lines[:end]
	s.sums, s.value, s.home = s.sums[:last], s.value[:last], s.home[:last]
	s.lower, s.upper = s.lower[:last], s.upper[:last]
}

// follow has a quantity that leads be led: by the first line that it is in. What that line led leads then, so it is brought within its bounds.
func (s *simplex) follow(at int) {
	for i, x := range s.lines {
		if x.l.of(at).Sign() == 0 {
			continue
		}
		target := s.value[x.of]
		switch {
		case s.isBelow(x.of):
			target = s.lower[x.of].value
		case s.isAbove(x.of):
			target = s.upper[x.of].value
		}
		s.turn(i, at, target)
		return
	}
}

func (s *simplex) isBelow(at int) bool {
	return s.lower[at].set && s.value[at].Cmp(s.lower[at].value) < 0
}

func (s *simplex) isAbove(at int) bool {
	return s.upper[at].set && s.value[at].Cmp(s.upper[at].value) > 0
}

// bound tells the bound above, or below.
func (s *simplex) bound(at int, up bool) bound {
	if up {
		return s.upper[at]
	}
	return s.lower[at]
}

// mayGo tells whether a quantity that leads may go up, or down.
func (s *simplex) mayGo(at int, up bool) bool {
	b := s.bound(at, up)
	return !b.set || s.value[at].Cmp(b.value) != 0
}

// setBound gives a quantity another bound above, or below.
func (s *simplex) setBound(at int, up bool, b bound) {
	if up {
		s.upper[at] = b
	} else {
		s.lower[at] = b
	}
	if s.home[at] != none {
		return
	}
	if s.isAbove(at) {
		s.shift(at, s.upper[at].value.Sub(s.value[at]), none)
	}
	if s.isBelow(at) {
		s.shift(at, s.lower[at].value.Sub(s.value[at]), none)
	}
}

// shift changes the value of a quantity that leads by so much, and the values of those that it leads, but by one line.
func (s *simplex) shift(at int, by rat.Rat, but int) {
	s.purse.spend(len(s.lines))
	s.value[at] = s.value[at].Add(by)
	for i, x := range s.lines {
		if s.purse.empty() {
			return
		}
		rate := x.rate(at)
		if i == but || rate.Top().Sign() == 0 {
			continue
		}
		value := s.value[x.of].Add(rate.Mul(by))
		s.value[x.of] = value
		s.purse.spend(weight(value.Top()) + weight(value.Below()))
	}
}

// rate tells how much what the line leads changes when a quantity that leads it changes by 1.
func (x line) rate(at int) rat.Rat {
	n := x.l.of(at)
	if n.Sign() == 0 {
		return rat.Rat{}
	}
	out, _ := rat.Of(n, size(x.l.of(x.of)))
	return out
}

// turn brings what a line leads to a value by means of a quantity that leads it, and lets these two change places.
func (s *simplex) turn(home, at int, target rat.Rat) {
	x := s.lines[home]
	back, _ := x.rate(at).Inv()
	s.shift(at, target.Sub(s.value[x.of]).Mul(back), home)
	s.value[x.of] = target
	s.pivot(home, at)
}

// pivot has a line lead a quantity that led it, and puts what the line says of it in its place in all others. These may grow by that; where it would be too much, it is given up ahead.
func (s *simplex) pivot(home, at int) {
	l := s.lines[home].l
	if l.of(at).Sign() > 0 {
		l = l.opposite()
	}
	var others []int
	for i, x := range s.lines {
		if i != home && x.l.of(at).Sign() != 0 {
			others = append(others, i)
		}
	}
	s.purse.spend(len(s.lines) + len(others)*len(l))
	if s.purse.empty() {
		return
	}
	s.home[s.lines[home].of], s.home[at] = none, home
	s.lines[home] = line{at, l}
	times := size(l.of(at))
	for _, i := range others {
		x := s.lines[i].l
		n := x.of(at)
		shared := times.Gcd(n)
		x = mix(quotient(times, shared), x, quotient(n, shared), l).lowest()
		s.lines[i].l = x
		s.purse.spend(x.weight())
		if s.purse.empty() {
			return
		}
	}
}
