package farkas_test

import (
	"math/big"
	"slices"
	"strings"

	"avow/api"
)

// numberOf tells the number of a right text of at most so many digits, and whether it is one.
func numberOf(s string, digits int) (*big.Int, bool) {
	if len(strings.TrimPrefix(s, "-")) > digits {
		return nil, false
	}
	n, ok := new(big.Int).SetString(s, 10)
	return n, ok && n.String() == s
}

// isRow tells whether x is a row, by chapter 9's words.
func isRow(x api.Lin) bool {
	if _, ok := numberOf(x.K, 400); !ok {
		return false
	}
	return !slices.ContainsFunc(x.C, func(c api.Coef) bool {
		_, ok := numberOf(c.N, 400)
		return !ok || len(c.Name) < 1 || len(c.Name) > 200
	})
}

// plainSum tells the same as Sum, by the words of P10.1.
func plainSum(l []api.Lin, by []string) (api.Lin, bool) {
	if len(by) > len(l) || slices.ContainsFunc(l, func(x api.Lin) bool { return !isRow(x) }) {
		return api.Lin{}, false
	}
	sums, k := map[string]*big.Int{}, new(big.Int)
	var names []string
	for i, text := range by {
		times, ok := numberOf(text, 1600)
		if !ok || times.Sign() < 0 {
			return api.Lin{}, false
		}
		for _, c := range l[i].C {
			if sums[c.Name] == nil {
				names = append(names, c.Name)
				sums[c.Name] = new(big.Int)
			}
			n, _ := numberOf(c.N, 400)
			sums[c.Name].Add(sums[c.Name], n.Mul(n, times))
		}
		n, _ := numberOf(l[i].K, 400)
		k.Add(k, n.Mul(n, times))
	}
	slices.Sort(names)
	out := api.Lin{K: k.String()}
	for _, name := range names {
		if sums[name].Sign() != 0 {
			out.C = append(out.C, api.Coef{Name: name, N: sums[name].String()})
		}
	}
	return out, true
}

// otherwise tells the opposite of a row.
func otherwise(x api.Lin) api.Lin {
	k, _ := numberOf(x.K, 400)
	out := api.Lin{K: new(big.Int).Not(k).String()} // -K - 1
	for _, c := range x.C {
		n, _ := numberOf(c.N, 400)
		out.C = append(out.C, api.Coef{Name: c.Name, N: n.Neg(n).String()})
	}
	return out
}

// plainCheck tells the same as Check, by the words of P10.2.
func plainCheck(l []api.Lin, f api.Farkas) api.Errno {
	switch {
	case slices.ContainsFunc(l, func(x api.Lin) bool { return !isRow(x) }):
		return api.ErrLin
	case !plainRefutes(l, f, 200):
		return api.ErrFarkas
	}
	return api.OK
}

// plainRefutes tells whether f refutes l, being at most so deep.
func plainRefutes(l []api.Lin, f api.Farkas, depth int) bool {
	switch {
	case depth == 0:
		return false
	case !f.Split:
		s, ok := plainSum(l, f.Sum)
		return ok && len(s.C) == 0 && s.K[0] == '-'
	case !isRow(f.Row) || len(f.L) != 2:
		return false
	}
	return plainRefutes(append(slices.Clip(l), f.Row), f.L[0], depth-1) && plainRefutes(append(slices.Clip(l), otherwise(f.Row)), f.L[1], depth-1)
}

// allHold tells whether all rows hold of numbers by names.
func allHold(l []api.Lin, at map[string]int64) bool {
	return !slices.ContainsFunc(l, func(x api.Lin) bool {
		worth := new(big.Int)
		for _, c := range x.C {
			n, _ := numberOf(c.N, 400)
			worth.Add(worth, n.Mul(n, big.NewInt(at[c.Name])))
		}
		k, _ := numberOf(x.K, 400)
		return worth.Cmp(k) > 0
	})
}

// somewhere tells whether all rows hold of some numbers that are at most so far from 0: all of these are tried.
func somewhere(l []api.Lin, far int64) bool {
	var names []string
	for _, x := range l {
		for _, c := range x.C {
			names = append(names, c.Name)
		}
	}
	slices.Sort(names)
	names = slices.Compact(names)
	at := map[string]int64{}
	var try func(left []string) bool
	try = func(left []string) bool {
		if len(left) == 0 {
			return allHold(l, at)
		}
		for n := -far; n <= far; n++ {
			at[left[0]] = n
			if try(left[1:]) {
				return true
			}
		}
		return false
	}
	return try(names)
}
