package lia

import (
	"math/big"
	"slices"
	"strings"

	"avow/api"
)

// number tells the number of a right text of at most so many digits, and whether it is one.
func number(s string, digits int) (*big.Int, bool) {
	n, ok := new(big.Int).SetString(s, 10)
	return n, ok && n.String() == s && len(strings.TrimPrefix(s, "-")) <= digits
}

// isRow tells whether x is a row, by chapter 9's words.
func isRow(x api.Lin) bool {
	if _, ok := number(x.K, 400); !ok {
		return false
	}
	for _, c := range x.C {
		if _, ok := number(c.N, 400); !ok || len(c.Name) < 1 || len(c.Name) > 200 {
			return false
		}
	}
	return true
}

// worth tells what a row's coefficients come to, with those numbers by names.
func worth(x api.Lin, at map[string]*big.Int) *big.Int {
	out := new(big.Int)
	for _, c := range x.C {
		n, _ := number(c.N, 400)
		out.Add(out, n.Mul(n, at[c.Name]))
	}
	return out
}

// allHold tells whether all rows hold of numbers by names.
func allHold(l []api.Lin, at map[string]*big.Int) bool {
	return !slices.ContainsFunc(l, func(x api.Lin) bool {
		k, _ := number(x.K, 400)
		return worth(x, at).Cmp(k) > 0
	})
}

// comesToNothing tells whether rows, each so many times, come to no coefficients and a K below 0, by chapter 10's words.
func comesToNothing(l []api.Lin, by []string) bool {
	if len(by) > len(l) {
		return false
	}
	sums, k := map[string]*big.Int{}, new(big.Int)
	for i, text := range by {
		times, ok := number(text, 1600)
		if !ok || times.Sign() < 0 {
			return false
		}
		for _, c := range l[i].C {
			n, _ := number(c.N, 400)
			if sums[c.Name] == nil {
				sums[c.Name] = new(big.Int)
			}
			sums[c.Name].Add(sums[c.Name], n.Mul(n, times))
		}
		n, _ := number(l[i].K, 400)
		k.Add(k, n.Mul(n, times))
	}
	for _, n := range sums {
		if n.Sign() != 0 {
			return false
		}
	}
	return k.Sign() < 0
}

// otherwise tells the row that says that x doesn't hold.
func otherwise(x api.Lin) api.Lin {
	k, _ := number(x.K, 400)
	out := api.Lin{K: new(big.Int).Not(k).String()} // -K - 1
	for _, c := range x.C {
		n, _ := number(c.N, 400)
		out.C = append(out.C, api.Coef{Name: c.Name, N: n.Neg(n).String()})
	}
	return out
}

// refutes tells whether f refutes l, by chapter 10's words, being at most so deep.
func refutes(l []api.Lin, f api.Farkas, depth int) bool {
	switch {
	case depth == 0 || slices.ContainsFunc(l, func(x api.Lin) bool { return !isRow(x) }):
		return false
	case !f.Split:
		return comesToNothing(l, f.Sum)
	case !isRow(f.Row) || len(f.L) != 2:
		return false
	}
	return refutes(append(slices.Clip(l), f.Row), f.L[0], depth-1) && refutes(append(slices.Clip(l), otherwise(f.Row)), f.L[1], depth-1)
}

// box: rows over few names as small numbers, with bounds of each name.
type box struct {
	low, high []int
	rows      []plain
}

// plain: a row: a number by each name, and K.
type plain struct {
	n []int
	k int
}

// some tells whether all rows of a box hold of some numbers within its bounds. All of these are tried, those of the last name all at once.
func (b box) some() bool {
	last := len(b.low) - 1
	if last < 0 {
		return b.lastRoom(nil)
	}
	at := slices.Clone(b.low)
	for {
		if b.lastRoom(at[:last]) {
			return true
		}
		i := 0
		for i < last && at[i] >= b.high[i] {
			at[i] = b.low[i]
			i++
		}
		if i == last {
			return false
		}
		at[i]++
	}
}

// lastRoom tells whether there is a number for the last name, the others' being told.
func (b box) lastRoom(at []int) bool {
	last := len(b.low) - 1
	low, high := 0, 0
	if last >= 0 {
		low, high = b.low[last], b.high[last]
	}
	for i, n := range at {
		if n < b.low[i] || n > b.high[i] {
			return false
		}
	}
	for _, x := range b.rows {
		left := x.k
		for i, n := range at {
			left -= x.n[i] * n
		}
		times := 0
		if last >= 0 {
			times = x.n[last]
		}
		switch {
		case times == 0 && left < 0:
			return false
		case times > 0:
			high = min(high, floor(left, times))
		case times < 0:
			low = max(low, -floor(left, -times))
		}
	}
	return low <= high
}

// floor tells a by b, which is above 0, rounded down.
func floor(a, b int) int {
	if a < 0 {
		return -((b - 1 - a) / b)
	}
	return a / b
}
