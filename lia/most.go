package lia

import (
	"avow/num"
	"avow/rat"
)

// most goes to where a sum of names is greatest, all quantities being and staying within their bounds, and tells how great it is there; or, if there is no greatest, how names change on a way on which it grows for ever.
func (s *simplex) most(l sum) (rat.Rat, []num.Int) {
	at := s.add(l)
	defer s.drop()
	for !s.purse.empty() {
		x := s.lines[s.home[at]]
		by := s.mover(x, true, false)
		if by == none {
			return s.value[at], nil
		}
		up := x.l.of(by).Sign() > 0
		way, home, ends := s.room(by, up)
		switch {
		case !ends:
			return rat.Rat{}, s.ray(by, up)
		case home == none:
			s.shift(by, way, none)
		default:
			y := s.lines[home]
			s.turn(home, by, s.value[y.of].Add(y.rate(by).Mul(way)))
		}
	}
	return rat.Rat{}, nil
}

// room tells how far a quantity that leads may go up, or down, and the line at whose bound its way ends (of several the first quantity's), or none, if that is its own bound; false, if the way has no end.
func (s *simplex) room(by int, up bool) (way rat.Rat, home int, ends bool) {
	s.purse.spend(len(s.lines))
	home = none
	if b := s.bound(by, up); b.set {
		way, ends = b.value.Sub(s.value[by]), true
	}
	for i, x := range s.lines {
		if s.purse.empty() {
			break
		}
		rate := x.rate(by)
		b := s.bound(x.of, up == (rate.Top().Sign() > 0))
		if rate.Top().Sign() == 0 || !b.set {
			continue
		}
		back, _ := rate.Inv()
		here := b.value.Sub(s.value[x.of]).Mul(back)
		s.purse.spend(weight(here.Top()) + weight(here.Below()))
		order := here.Cmp(way)
		if !up {
			order = -order
		}
		if !ends || order < 0 || order == 0 && home != none && x.of < s.lines[home].of {
			way, home, ends = here, i, true
		}
	}
	return way, home, ends
}

// ray tells how names change, in whole numbers, when a quantity that leads goes up, or down; nothing, if it gave up.
func (s *simplex) ray(by int, up bool) []num.Int {
	s.purse.spend(s.names)
	one := num.Of(-1)
	if up {
		one = num.Of(1)
	}
	rates := make([]rat.Rat, s.names)
	all := num.Of(1)
	for at := range rates {
		if at == by {
			rates[at] = rat.Whole(one)
		} else if s.home[at] != none {
			rates[at] = s.lines[s.home[at]].rate(by).Mul(rat.Whole(one))
		}
		all = multiple(all, rates[at].Below())
		s.purse.spend(weight(all))
		if s.purse.empty() {
			return nil
		}
	}
	out := make([]num.Int, s.names)
	for at, rate := range rates {
		out[at] = rate.Top().Mul(quotient(all, rate.Below()))
	}
	return out
}
