package lia

import "avow/num"

// reduction makes columns short, and upright to one another, as far as it can (the way of Lenstra, Lenstra and Lovász, in whole numbers alone).
type reduction struct {
	basis *basis
	from  int // columns are counted from here
	// Column j without what it has of those ahead of it is its upright part; scale[j+1] by scale[j] is the square of that part's length, and slant[k][j] by scale[j+1] is how many times column k has it.
	scale []num.Int
	slant [][]num.Int
}

// reduce changes the columns from a place on, whose products by pairs are told.
func (b *basis) reduce(from int, products [][]num.Int) {
	r := &reduction{basis: b, from: from}
	if !r.begin(products) {
		return
	}
	for k := 1; k < len(products) && !b.purse.empty(); {
		b.purse.spend(len(products) * weight(r.scale[k+1]))
		r.straighten(k, k-1)
		if r.isShorter(k) {
			r.exchange(k)
			k = max(1, k-1)
			continue
		}
		for j := k - 2; j >= 0; j-- {
			r.straighten(k, j)
		}
		k++
	}
}

// begin reckons scales and slants; false, if it gave up. Here and below nothing is left of any quotient, but where it is rounded.
func (r *reduction) begin(products [][]num.Int) bool {
	r.scale = []num.Int{num.Of(1)}
	for k, row := range products {
		slant := make([]num.Int, 0, k+1)
		for j, n := range row {
			for i := range j {
				other := slant
				if j < k {
					other = r.slant[j]
				}
				n = quotient(r.scale[i+1].Mul(n).Sub(slant[i].Mul(other[i])), r.scale[i])
			}
			r.basis.purse.spend(j * weight(n))
			if r.basis.purse.empty() {
				return false
			}
			slant = append(slant, n)
		}
		r.slant = append(r.slant, slant[:k])
		r.scale = append(r.scale, slant[k])
	}
	return true
}

// straighten takes column j away from column k so many times that this one has as little of it as can be.
func (r *reduction) straighten(k, j int) {
	times := nearest(r.slant[k][j], r.scale[j+1])
	if times.Sign() == 0 {
		return
	}
	r.basis.take(r.from+k, r.from+j, times)
	r.slant[k][j] = r.slant[k][j].Sub(times.Mul(r.scale[j+1]))
	for i := range j {
		r.slant[k][i] = r.slant[k][i].Sub(times.Mul(r.slant[j][i]))
	}
}

// isShorter tells whether column k would have a clearly shorter upright part in the place of the one ahead than that one has.
func (r *reduction) isShorter(k int) bool {
	slant, scale := r.slant[k][k-1], r.scale[k]
	square := r.scale[k+1].Mul(r.scale[k-1]).Add(slant.Mul(slant))
	return square.Mul(num.Of(4)).Cmp(scale.Mul(scale).Mul(num.Of(3))) < 0
}

// exchange has column k and the one ahead change places.
func (r *reduction) exchange(k int) {
	r.basis.swap(r.from+k, r.from+k-1)
	for j := range k - 1 {
		r.slant[k][j], r.slant[k-1][j] = r.slant[k-1][j], r.slant[k][j]
	}
	slant := r.slant[k][k-1]
	scale := quotient(r.scale[k-1].Mul(r.scale[k+1]).Add(slant.Mul(slant)), r.scale[k])
	for _, x := range r.slant[k+1:] {
		n := x[k]
		x[k] = quotient(r.scale[k+1].Mul(x[k-1]).Sub(slant.Mul(n)), r.scale[k])
		x[k-1] = quotient(scale.Mul(n).Add(slant.Mul(x[k])), r.scale[k+1])
	}
	r.scale[k] = scale
}
