package lia

import (
	"avow/num"
	"avow/rat"
)

const (
	// fine: points are told in parts of 1 so small.
	fine = 1 << 20
	// precise: the weight of the widest span: so great that whole numbers are precise enough as weights.
	precise = 1 << 16
)

// span: from where to where a sum of names goes within the bounds; endless, if it has no end on one side.
type span struct {
	l         sum
	low, high rat.Rat
	endless   bool
}

func (x span) width() rat.Rat { return x.high.Sub(x.low) }

// wholes tells how many whole numbers are in it.
func (x span) wholes() num.Int {
	return x.high.Floor().Add(x.low.Neg().Floor()).Add(num.Of(1))
}

// shape: what is known of all the numbers that are within the bounds.
type shape struct {
	fixed []span // of no width
	wide  []span // of some width
	// points: by names: some points, all together, told in fine parts.
	points []num.Int
	count  int64
	// ray: by names: going so, numbers stay within the bounds, and whatever is endless moves away from its bound.
	ray []num.Int
}

// measure tells the shape of what is within the bounds.
func (s *solver) measure() *shape {
	m := &shape{points: make([]num.Int, len(s.names)), ray: make([]num.Int, len(s.names))}
	for at, l := range s.lp.sums {
		if s.purse.empty() {
			break
		}
		if !s.lp.lower[at].set && !s.lp.upper[at].set {
			continue
		}
		x := s.span(l, m.see)
		switch {
		case x.endless:
		case x.width().Top().Sign() == 0:
			m.fixed = append(m.fixed, x)
		default:
			m.wide = append(m.wide, x)
		}
	}
	return m
}

// span tells the span of a sum of names; see is shown the values at its ends, and the ways without end.
func (s *solver) span(l sum, see func(value []rat.Rat, ray []num.Int)) span {
	high, up := s.lp.most(l)
	see(s.lp.value, up)
	low, down := s.lp.most(l.opposite())
	see(s.lp.value, down)
	s.purse.spend(2 * len(s.names))
	return span{l: l, low: low.Neg(), high: high, endless: up != nil || down != nil}
}

// see adds a point, and a ray.
func (m *shape) see(value []rat.Rat, ray []num.Int) {
	for i := range m.points {
		m.points[i] = m.points[i].Add(value[i].Mul(rat.Whole(num.Of(fine))).Floor())
	}
	m.count++
	for i, n := range ray {
		m.ray[i] = m.ray[i].Add(n)
	}
}

// products tells the products of columns, by pairs: how far columns go is told by how much the wide spans change, in parts of their widths.
func (m *shape) products(b *basis, from, end int) [][]num.Int {
	out := make([][]num.Int, end-from)
	for i := range out {
		out[i] = make([]num.Int, i+1)
	}
	widest := m.widest()
	for _, x := range m.wide {
		narrow, _ := x.width().Inv()
		ratio := widest.Mul(narrow)
		factor := ratio.Mul(ratio).Mul(rat.Whole(num.Of(precise))).Floor()
		for i := range out {
			n := b.along(x.l, from+i).Mul(factor)
			for j := range out[i] {
				out[i][j] = out[i][j].Add(n.Mul(b.along(x.l, from+j)))
			}
		}
		if b.purse.empty() {
			break
		}
	}
	return out
}

func (m *shape) widest() rat.Rat {
	var out rat.Rat
	for _, x := range m.wide {
		if w := x.width(); w.Cmp(out) > 0 {
			out = w
		}
	}
	return out
}

// sumsOf tells the sums of spans.
func sumsOf(l []span) []sum {
	out := make([]sum, len(l))
	for i, x := range l {
		out[i] = x.l
	}
	return out
}
