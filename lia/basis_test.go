package lia

import (
	"testing"

	"avow/num"
	"avow/rat"
)

// sumOf tells a sum of so many names.
func (m maker) sumOf(names int) sum {
	out := make([]part, names)
	for i := range out {
		out[i] = part{i, num.Of(int64(m.within(99)))}
	}
	return gather(out)
}

// checkBasis holds rows against columns: each row is 1 along its column, and 0 along all others.
func checkBasis(t *testing.T, b *basis) {
	t.Helper()
	for i := range b.rows {
		for j := range b.columns {
			want := num.Of(0)
			if i == j {
				want = num.Of(1)
			}
			if n := b.along(b.row(i), j); n.Cmp(want) != 0 {
				t.Fatalf("P9.2: row %d is %v along column %d", i, n, j)
			}
		}
	}
}

// product tells the product of columns: of how much sums change along them.
func product(l []sum, x, y []num.Int) num.Int {
	var out num.Int
	for _, z := range l {
		out = out.Add(z.worth(x).Mul(z.worth(y)))
	}
	return out
}

// checkReduced holds columns against what is told of them: that each has at most half of the upright parts of those ahead, and that none is much shorter than the one ahead.
func checkReduced(t *testing.T, l []sum, columns [][]num.Int) {
	t.Helper()
	half, _ := rat.Of(num.Of(1), num.Of(2))
	quarters, _ := rat.Of(num.Of(3), num.Of(4))
	var squares []rat.Rat
	var slants [][]rat.Rat
	for k, x := range columns {
		square, slant := rat.Whole(product(l, x, x)), make([]rat.Rat, k)
		for j := range k {
			n := rat.Whole(product(l, x, columns[j]))
			for i := range j {
				n = n.Sub(slant[i].Mul(slants[j][i]).Mul(squares[i]))
			}
			back, _ := squares[j].Inv()
			slant[j] = n.Mul(back)
			if slant[j].Cmp(half) > 0 || slant[j].Neg().Cmp(half) > 0 {
				t.Fatalf("P9.2: column %d has the upright part of column %d %v times", k, j, slant[j])
			}
			if j == k-1 && square.Cmp(quarters.Mul(squares[j])) < 0 {
				t.Fatalf("P9.2: column %d is much shorter than the one ahead", k)
			}
			square = square.Sub(slant[j].Mul(n))
		}
		squares, slants = append(squares, square), append(slants, slant)
	}
}

// TestReduce: what P9.2 leans on: sums that are fixed change along few columns, and the others become short and upright.
func TestReduce(t *testing.T) {
	for seed := range 300 {
		m := newMaker(int64(seed))
		names := 1 + seed%6
		var fixed, wide []sum
		for range m.Intn(names) {
			fixed = append(fixed, m.sumOf(names))
		}
		for i := range names {
			wide = append(wide, single(i), m.sumOf(names))
		}
		b := newBasis(names, &purse{left: 1 << 40})
		from := b.gather(fixed, 0)
		if from > len(fixed) {
			t.Fatalf("P9.2: %d sums in %d columns", len(fixed), from)
		}
		var products [][]num.Int
		for i, x := range b.columns[from:] {
			products = append(products, nil)
			for _, y := range b.columns[from : from+i+1] {
				products[i] = append(products[i], product(wide, x, y))
			}
			for _, l := range fixed {
				if l.worth(x).Sign() != 0 {
					t.Fatalf("P9.2: %v changes along %v", l, x)
				}
			}
		}
		checkBasis(t, b)
		b.reduce(from, products)
		checkBasis(t, b)
		checkReduced(t, wide, b.columns[from:])
	}
}
