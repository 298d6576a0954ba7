package farkas_test

import (
	"math/rand"
	"slices"
	"strconv"
	"testing"

	"avow/api"
	"avow/farkas"
	"avow/lia"
)

// far: all numbers that are at most so far from 0 are tried.
const far = 5

// maker makes rows and refutations.
type maker struct{ *rand.Rand }

func newMaker(seed int64) maker { return maker{rand.New(rand.NewSource(seed))} }

// within tells a number from -most to most.
func (m maker) within(most int) int { return m.Intn(2*most+1) - most }

func nameOf(i int) string { return string(rune('x' + i)) }

// row tells a row of some of so many names.
func (m maker) row(names, most int) api.Lin {
	out := api.Lin{K: strconv.Itoa(m.within(most))}
	for i := range names {
		if m.Intn(4) > 0 {
			out.C = append(out.C, api.Coef{Name: nameOf(i), N: strconv.Itoa(m.within(most))})
		}
	}
	if len(out.C) > 0 && m.Intn(6) == 0 {
		out.C = append(out.C, out.C[0])
	}
	return out
}

// rows tells at most so many rows: some alone, others in pairs that leave little room between them.
func (m maker) rows(names, most, count int) []api.Lin {
	var out []api.Lin
	for range 1 + m.Intn(count) {
		x := m.row(names, most)
		out = append(out, x)
		if m.Intn(2) > 0 {
			y := otherwise(x)
			k, _ := strconv.Atoi(y.K)
			y.K = strconv.Itoa(k + 1 + m.Intn(2))
			out = append(out, y)
		}
	}
	return out
}

// bound: a bound of a name, and the number of the row that says it.
type bound struct{ n, at int }

// room: bounds of each name, and how many rows there are.
type room struct {
	low, high []bound
	rows      int
}

// bounds tells rows that bound so many names, and the room that they leave.
func (m maker) bounds(names int) ([]api.Lin, room) {
	var l []api.Lin
	var r room
	for i := range names {
		low, high := m.within(far), m.within(far)
		if low > high && m.Intn(10) > 0 {
			low, high = high, low
		}
		r.high, r.low = append(r.high, bound{high, len(l)}), append(r.low, bound{low, len(l) + 1})
		l = append(l, row(strconv.Itoa(high), nameOf(i), "1"), row(strconv.Itoa(-low), nameOf(i), "-1"))
	}
	return l, r
}

// total: how many times each name is in a row.
func total(x api.Lin, names int) []int {
	out := make([]int, names)
	for _, c := range x.C {
		n, _ := strconv.Atoi(c.N)
		out[c.Name[0]-'x'] += n
	}
	return out
}

// clash tells a sum that refutes the row at a place and the bounds of the room, and whether there is one.
func (r room) clash(x api.Lin, at int) (api.Farkas, bool) {
	times := make([]int, r.rows)
	times[at] = 1
	least, _ := strconv.Atoi(x.K)
	for i, n := range total(x, len(r.low)) {
		if n > 0 {
			least -= n * r.low[i].n
			times[r.low[i].at] += n
		} else {
			least -= n * r.high[i].n
			times[r.high[i].at] -= n
		}
	}
	var out api.Farkas
	for _, n := range times {
		out.Sum = append(out.Sum, strconv.Itoa(n))
	}
	return out, least < 0
}

// prove tells what refutes rows within a room, by splits down to single numbers, and whether there is such a thing.
func (m maker) prove(l []api.Lin, r room) (api.Farkas, bool) {
	for i, x := range l {
		if f, ok := r.clash(x, i); ok {
			return f, true
		}
	}
	var open []int
	for i := range r.low {
		if r.low[i].n < r.high[i].n {
			open = append(open, i)
		}
	}
	if len(open) == 0 {
		return api.Farkas{}, false
	}
	at := open[m.Intn(len(open))]
	middle := r.low[at].n + m.Intn(r.high[at].n-r.low[at].n)
	below, above := r.with(at, r.low[at], bound{middle, r.rows}), r.with(at, bound{middle + 1, r.rows}, r.high[at])
	first, ok := m.prove(l, below)
	second, fine := m.prove(l, above)
	if m.Intn(2) == 0 {
		return split(row(strconv.Itoa(-middle-1), nameOf(at), "-1"), second, first), ok && fine
	}
	return split(row(strconv.Itoa(middle), nameOf(at), "1"), first, second), ok && fine
}

// with tells the room with other bounds of a name, one of which a new row says.
func (r room) with(at int, low, high bound) room {
	out := room{slices.Clone(r.low), slices.Clone(r.high), r.rows + 1}
	out.low[at], out.high[at] = low, high
	return out
}

// changed tells another number's text.
func (m maker) changed(text string) string {
	n, _ := strconv.Atoi(text)
	if m.Intn(8) == 0 {
		return []string{"", "x", "-0", "0" + text, text + " ", "-" + text}[m.Intn(6)]
	}
	return strconv.Itoa(n + []int{-1, 1, -n, n, -2 * n}[m.Intn(5)])
}

// changedRow tells a row with one thing changed.
func (m maker) changedRow(x api.Lin) api.Lin {
	x.C = slices.Clone(x.C)
	if len(x.C) == 0 || m.Intn(2) == 0 {
		x.K = m.changed(x.K)
		return x
	}
	at := m.Intn(len(x.C))
	if m.Intn(5) == 0 {
		x.C[at].Name = []string{"x", "y", ""}[m.Intn(3)]
	} else {
		x.C[at].N = m.changed(x.C[at].N)
	}
	return x
}

// changedFarkas tells a refutation with one thing changed, somewhere in it.
func (m maker) changedFarkas(f api.Farkas) api.Farkas {
	f.L, f.Sum = slices.Clone(f.L), slices.Clone(f.Sum)
	if len(f.L) > 0 && m.Intn(4) > 0 {
		at := m.Intn(len(f.L))
		f.L[at] = m.changedFarkas(f.L[at])
		return f
	}
	switch m.Intn(8) {
	case 0:
		f.Split = !f.Split
	case 1:
		slices.Reverse(f.L)
	case 2:
		f.L = append(f.L, sum("1"))
	case 3:
		f.L = f.L[:len(f.L)/2]
	case 4:
		f.Sum = append(f.Sum, strconv.Itoa(m.Intn(3)))
	case 5:
		f.Sum = f.Sum[:max(0, len(f.Sum)-1-m.Intn(2))]
	default:
		if f.Split {
			f.Row = m.changedRow(f.Row)
		} else if len(f.Sum) > 0 {
			at := m.Intn(len(f.Sum))
			f.Sum[at] = m.changed(f.Sum[at])
		}
	}
	return f
}

// changedRows tells rows with something changed.
func (m maker) changedRows(l []api.Lin) []api.Lin {
	l = slices.Clone(l)
	at := m.Intn(len(l))
	switch m.Intn(5) {
	case 0:
		return slices.Delete(l, at, at+1)
	case 1:
		other := m.Intn(len(l))
		l[at], l[other] = l[other], l[at]
	default:
		l[at] = m.changedRow(l[at])
	}
	return l
}

// checkSound holds what Check tells of a refutation against all small numbers.
func checkSound(t *testing.T, l []api.Lin, f api.Farkas) api.Errno {
	t.Helper()
	out := askCheck(t, l, f)
	if out == api.OK && somewhere(l, far+1) {
		t.Fatalf("P10.3: %v are refuted by %v, and hold of some numbers", l, f)
	}
	return out
}

// TestRefuted: P10.2 and P10.3, of refutations that are right, and of such that are nearly so.
func TestRefuted(t *testing.T) {
	right, splits, counts := 0, 0, map[api.Errno]int{}
	for i := range 600 {
		m := newMaker(int64(i))
		names := 1 + i%2
		l, r := m.bounds(names)
		l = append(l, m.rows(names, 6, 3)...)
		r.rows = len(l)
		f, ok := m.prove(l, r)
		if ok == somewhere(l, far+1) {
			t.Fatalf("%v: proved: %v", l, ok)
		}
		if !ok {
			continue
		}
		if e := checkSound(t, l, f); e != api.OK {
			t.Fatalf("P10.2: %v by %v: %v", l, f, e)
		}
		if right++; f.Split {
			splits++
		}
		for range 12 {
			counts[checkSound(t, l, m.changedFarkas(f))]++
			counts[checkSound(t, m.changedRows(l), f)]++
			counts[checkSound(t, m.changedRows(l), m.changedFarkas(f))]++
		}
	}
	if right < 200 || splits < 80 || counts[api.OK] < 300 || counts[api.ErrFarkas] < 3000 || counts[api.ErrLin] < 300 {
		t.Errorf("too few of one kind: %d, %d, %v", right, splits, counts)
	}
}

// something tells any refutation of so many rows.
func (m maker) something(names, rows, depth int) api.Farkas {
	if depth > 0 && m.Intn(2) == 0 {
		return split(m.row(names, 2), m.something(names, rows+1, depth-1), m.something(names, rows+1, depth-1))
	}
	var out api.Farkas
	for range m.Intn(rows + 1) {
		out.Sum = append(out.Sum, strconv.Itoa(m.Intn(3)))
	}
	return out
}

// TestAny: P10.2 and P10.3, of rows and refutations that have nothing to do with each other; few refute.
func TestAny(t *testing.T) {
	splits, counts := 0, map[api.Errno]int{}
	for i := range 30000 {
		m := newMaker(int64(i))
		var l []api.Lin
		names := m.Intn(3)
		for range m.Intn(4) {
			l = append(l, m.row(names, 2))
		}
		f := m.something(names, len(l), 2)
		e := checkSound(t, l, f)
		if counts[e]++; e == api.OK && f.Split {
			splits++
		}
	}
	if counts[api.OK] < 500 || splits < 30 || counts[api.ErrFarkas] < 5000 {
		t.Errorf("too few of one kind: %d, %v", splits, counts)
	}
}

// TestLia: the refutations that package lia tells are taken.
func TestLia(t *testing.T) {
	taken, splits := 0, 0
	for i := range 1500 {
		m := newMaker(int64(i))
		names := 1 + m.Intn(4)
		var l []api.Lin
		if i%2 == 0 {
			l, _ = m.bounds(names)
		}
		l = append(l, m.rows(names, []int{3, 9, 99}[i%3], 4)...)
		verdict, _, f, e := lia.Solve(l, 100000)
		if e != api.OK || verdict != api.Unsat {
			continue
		}
		if e := farkas.Check(l, f); e != api.OK || plainCheck(l, f) != api.OK {
			t.Fatalf("P10.2: %v by %v: %v", l, f, e)
		}
		if taken++; f.Split {
			splits++
		}
	}
	if taken < 300 || splits < 50 {
		t.Errorf("just %d were refuted, %d by splits", taken, splits)
	}
}

// TestSumsOfRandom: P10.1: sums of any rows by any numbers.
func TestSumsOfRandom(t *testing.T) {
	told, empty := 0, 0
	for i := range 20000 {
		m := newMaker(int64(i))
		names := m.Intn(4)
		var l []api.Lin
		for range m.Intn(5) {
			l = append(l, m.row(names, 3))
		}
		var by []string
		for range m.Intn(len(l) + 2) {
			by = append(by, strconv.Itoa(m.Intn(4)))
		}
		if len(by) > 0 && m.Intn(9) == 0 {
			by[m.Intn(len(by))] = m.changed("3")
		}
		if len(l) > 0 && m.Intn(9) == 0 {
			l = m.changedRows(l)
		}
		if x, ok := askSum(t, l, by); ok {
			if told++; len(x.C) == 0 {
				empty++
			}
		}
	}
	if told < 5000 || empty < 500 || told > 19000 {
		t.Errorf("%d sums were told, %d without coefficients", told, empty)
	}
}
