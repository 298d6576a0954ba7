package lia

import "avow/num"

// basis: columns: numbers by names, of which, each a whole number of times, all whole numbers by names are sums, each in one way; how many times each column is in such a sum, its row tells of the numbers. So the rows are other names for the same: they are whole numbers where the names are, and nowhere else.
type basis struct {
	columns, rows [][]num.Int
	purse         *purse
}

// newBasis tells the names themselves.
func newBasis(names int, p *purse) *basis {
	b := &basis{purse: p}
	for i := range names {
		column, row := make([]num.Int, names), make([]num.Int, names)
		column[i], row[i] = num.Of(1), num.Of(1)
		b.columns, b.rows = append(b.columns, column), append(b.rows, row)
	}
	return b
}

// take takes a column so many times away from another one, and changes the rows such that they fit.
func (b *basis) take(from, column int, times num.Int) {
	b.purse.spend(addTo(b.columns[from], b.columns[column], times.Neg()))
	b.purse.spend(addTo(b.rows[column], b.rows[from], times))
}

// addTo adds y to x so many times, and tells the units that it took.
func addTo(x, y []num.Int, times num.Int) int {
	units := len(x)
	for i, n := range y {
		if n.Sign() != 0 {
			x[i] = x[i].Add(n.Mul(times))
			units += weight(x[i])
		}
	}
	return units
}

func (b *basis) swap(i, j int) {
	b.columns[i], b.columns[j] = b.columns[j], b.columns[i]
	b.rows[i], b.rows[j] = b.rows[j], b.rows[i]
}

// row tells a row as a sum of names.
func (b *basis) row(i int) sum {
	var out sum
	for at, n := range b.rows[i] {
		if n.Sign() != 0 {
			out = append(out, part{at, n})
		}
	}
	return out
}

// along tells how much a sum of names changes along a column.
func (b *basis) along(l sum, column int) num.Int {
	b.purse.spend(len(l))
	return l.worth(b.columns[column])
}

// gather changes the columns from a place on such that sums of names change along the first of them alone; it tells the place behind these.
func (b *basis) gather(l []sum, from int) int {
	for _, x := range l {
		from = b.gatherOne(x, from)
	}
	return from
}

// gatherOne does so with one sum: the column along which it changes least is taken away from the others, until it changes along that one alone.
func (b *basis) gatherOne(l sum, from int) int {
	for !b.purse.empty() {
		least, count := b.slowest(l, from)
		if count == 0 {
			return from
		}
		b.swap(from, least)
		if count == 1 {
			return from + 1
		}
		by := b.along(l, from)
		for i := from + 1; i < len(b.columns); i++ {
			if times := quotient(b.along(l, i), by); times.Sign() != 0 {
				b.take(i, from, times)
			}
		}
	}
	return from
}

// slowest tells the column, from a place on, along which a sum changes least, but does change; and along how many it does.
func (b *basis) slowest(l sum, from int) (least, count int) {
	var by num.Int
	for i := from; i < len(b.columns); i++ {
		n := size(b.along(l, i))
		if n.Sign() == 0 {
			continue
		}
		if count == 0 || n.Cmp(by) < 0 {
			least, by = i, n
		}
		count++
	}
	return least, count
}
