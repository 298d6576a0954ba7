package lia

import (
	"avow/api"
	"avow/num"
	"avow/rat"
)

// byWidth finds whole numbers within the bounds, or chooses a sum of names that has few whole values there. For that the names are changed for others, such that what is within the bounds, however flat and slanted it was, is much like a ball: it has whole numbers next to its middle, or is thin along one of the new names (the way of Lenstra). What is fixed, and what is endless, is set apart first.
func (s *solver) byWidth() choice {
	m := s.measure()
	s.purse.spend(2 * len(s.names) * len(s.names))
	if s.purse.empty() {
		return choice{}
	}
	for _, x := range m.wide {
		if x.wholes().Sign() == 0 {
			return choice{l: x.l, k: x.high.Floor()}
		}
	}
	b := newBasis(len(s.names), s.purse)
	fixed := b.gather(sumsOf(m.fixed), 0)
	for i := range fixed {
		l := b.row(i).forward()
		if value := s.lp.worth(l); !value.IsWhole() {
			return choice{l: l, k: value.Floor()}
		}
	}
	end := b.gather(sumsOf(m.wide), fixed)
	b.reduce(fixed, m.products(b, fixed, end))
	if s.isNear(b, m, fixed) {
		return choice{verdict: api.Sat}
	}
	return s.thinnest(b, fixed, end)
}

// isNear tells whether whole numbers next to the middle, or on the ray from there, are within the bounds, and keeps them, if they are.
func (s *solver) isNear(b *basis, m *shape, fixed int) bool {
	point := make([]num.Int, len(s.names))
	for i, column := range b.columns {
		times := nearest(b.row(i).worth(m.points), num.Of(fine).Mul(num.Of(m.count)))
		if i < fixed {
			times = s.lp.worth(b.row(i)).Floor()
		}
		s.purse.spend(len(point) + addTo(point, column, times))
	}
	var way num.Int
	for at, l := range s.lp.sums {
		value, rate := l.worth(point), l.worth(m.ray)
		s.purse.spend(len(l))
		if b := s.lp.upper[at]; b.set && !reach(&way, value.Sub(b.value.Top()), rate.Neg()) {
			return false
		}
		if b := s.lp.lower[at]; b.set && !reach(&way, b.value.Top().Sub(value), rate) {
			return false
		}
	}
	addTo(point, m.ray, way)
	s.point = point
	return !s.purse.empty()
}

// reach makes way so long that what is missing is reached at that rate; false, if it never is.
func reach(way *num.Int, missing, rate num.Int) bool {
	if missing.Sign() <= 0 {
		return true
	}
	if rate.Sign() <= 0 {
		return false
	}
	if n := quotient(missing.Neg(), rate).Neg(); n.Cmp(*way) > 0 {
		*way = n
	}
	return true
}

// thinnest chooses, of those new names, one that has the fewest whole values, to be split in the middle.
func (s *solver) thinnest(b *basis, from, end int) choice {
	half, _ := rat.Of(num.Of(1), num.Of(2))
	var out choice
	var fewest num.Int
	for i := end - 1; i >= from && !s.purse.empty(); i-- {
		l := b.row(i).forward()
		x := s.span(l, func([]rat.Rat, []num.Int) {})
		n := x.wholes()
		if x.endless || len(out.l) > 0 && n.Cmp(fewest) >= 0 {
			continue
		}
		out, fewest = choice{l: l, k: x.low.Add(x.high).Mul(half).Floor()}, n
		if n.Sign() == 0 || isOne(n) {
			break
		}
	}
	return out
}
