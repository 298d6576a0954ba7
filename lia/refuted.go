package lia

import (
	"slices"

	"avow/num"
	"avow/rat"
)

// refuted: what refutes: a sum of facts; or the sides of a split, and what refutes each of them.
type refuted struct {
	sum   sum
	sides []int // facts
	l     []*refuted
	uses  []int // facts that aren't given, in order; the sides aside
}

// add adds a side, and what refutes it.
func (r *refuted) add(side int, x *refuted) {
	r.sides, r.l = append(r.sides, side), append(r.l, x)
	r.uses = append(r.uses, x.uses...)
	slices.Sort(r.uses)
	r.uses = slices.DeleteFunc(slices.Compact(r.uses), func(i int) bool { return i == side })
}

// opposite tells the fact that holds of whole numbers where f doesn't.
func (f fact) opposite() fact {
	return fact{l: f.l.opposite(), k: f.k.Neg().Sub(num.Of(1)), from: none}
}

// leaf tells a sum of facts that refutes.
func (s *solver) leaf(l sum) *refuted {
	s.purse.spend(s.given + len(l))
	out := &refuted{sum: s.loosen(l)}
	for _, p := range out.sum {
		if p.at >= s.given {
			out.uses = append(out.uses, p.at)
		}
	}
	return out
}

// loosen puts given rows in the place of the tighter ones that are from them, as far as the sum still refutes: each of those would take a split.
func (s *solver) loosen(l sum) sum {
	var total rat.Rat
	for _, p := range l {
		total = total.Add(rat.Whole(p.n.Mul(s.facts[p.at].k)))
	}
	all := num.Of(1)
	out := slices.Clone([]part(l))
	for i, p := range l {
		f := s.facts[p.at]
		if f.from == none {
			continue
		}
		k, _ := rat.Of(s.facts[f.from].k, f.times)
		more := total.Add(k.Sub(rat.Whole(f.k)).Mul(rat.Whole(p.n)))
		times := multiple(all, f.times)
		// Times that are much too long couldn't be told.
		if more.Top().Sign() < 0 && isShort(times.String()) {
			total, all, out[i].at = more, times, f.from
		}
	}
	for i, p := range l {
		out[i].n = p.n.Mul(all)
		if out[i].at != p.at {
			out[i].n = quotient(out[i].n, s.facts[p.at].times)
		}
	}
	return gather(out).lowest()
}

// withTighter tells what refutes the rows without tighter ones: each that is used is a side of a split, whose other side the given row refutes.
func (s *solver) withTighter(r *refuted) *refuted {
	for _, number := range r.uses {
		f := s.facts[number]
		other := s.add(f.opposite())
		x := &refuted{sum: gather([]part{{f.from, num.Of(1)}, {other, f.times}}), uses: []int{other}}
		out := &refuted{}
		// As in all other splits, the first name is above 0 times in the first side.
		if f.l[0].n.Sign() > 0 {
			out.add(number, r)
			out.add(other, x)
		} else {
			out.add(other, x)
			out.add(number, r)
		}
		r = out
	}
	return r
}
