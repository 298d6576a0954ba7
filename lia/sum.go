package lia

import (
	"cmp"
	"slices"
	"strconv"

	"avow/num"
)

// part: so many times what has the number at.
type part struct {
	at int
	n  num.Int
}

// sum: parts in order of at, each at once, none of them 0 times.
type sum []part

// single tells the sum of one thing, once.
func single(at int) sum { return sum{{at, num.Of(1)}} }

// gather tells the sum of parts in any order; several may be of one thing. It changes l.
func gather(l []part) sum {
	slices.SortFunc(l, func(a, b part) int { return cmp.Compare(a.at, b.at) })
	var out sum
	for i := 0; i < len(l); {
		p := l[i]
		for i++; i < len(l) && l[i].at == p.at; i++ {
			p.n = p.n.Add(l[i].n)
		}
		if p.n.Sign() != 0 {
			out = append(out, p)
		}
	}
	return out
}

// of tells how many times a thing is in x.
func (x sum) of(at int) num.Int {
	i, ok := slices.BinarySearchFunc(x, at, func(p part, at int) int { return cmp.Compare(p.at, at) })
	if !ok {
		return num.Int{}
	}
	return x[i].n
}

// mix tells a times x and b times y together.
func mix(a num.Int, x sum, b num.Int, y sum) sum {
	out := make(sum, 0, len(x)+len(y))
	for len(x) > 0 || len(y) > 0 {
		var p part
		switch {
		case len(y) == 0 || len(x) > 0 && x[0].at < y[0].at:
			p, x = part{x[0].at, a.Mul(x[0].n)}, x[1:]
		case len(x) == 0 || y[0].at < x[0].at:
			p, y = part{y[0].at, b.Mul(y[0].n)}, y[1:]
		default:
			p = part{x[0].at, a.Mul(x[0].n).Add(b.Mul(y[0].n))}
			x, y = x[1:], y[1:]
		}
		if p.n.Sign() != 0 {
			out = append(out, p)
		}
	}
	return out
}

// opposite tells x with all signs changed.
func (x sum) opposite() sum { return mix(num.Of(-1), x, num.Int{}, nil) }

// forward tells x or its opposite, whichever has the first thing above 0 times.
func (x sum) forward() sum {
	if len(x) > 0 && x[0].n.Sign() < 0 {
		return x.opposite()
	}
	return x
}

// common tells the greatest number that divides all of x.
func (x sum) common() num.Int {
	var out num.Int
	for _, p := range x {
		if out = out.Gcd(p.n); isOne(out) {
			break
		}
	}
	return out
}

// by tells x by a number that divides all of it.
func (x sum) by(n num.Int) sum {
	if isOne(n) {
		return x
	}
	out := make(sum, len(x))
	for i, p := range x {
		out[i] = part{p.at, quotient(p.n, n)}
	}
	return out
}

// lowest tells x by the greatest number that divides all of it.
func (x sum) lowest() sum { return x.by(x.common()) }

// worth tells x of numbers.
func (x sum) worth(numbers []num.Int) num.Int {
	var out num.Int
	for _, p := range x {
		out = out.Add(p.n.Mul(numbers[p.at]))
	}
	return out
}

// weight tells the units that reckoning with x takes.
func (x sum) weight() int {
	out := 0
	for _, p := range x {
		out += weight(p.n)
	}
	return out
}

// text tells a text that no other sum has.
func (x sum) text() string {
	var out []byte
	for _, p := range x {
		out = strconv.AppendInt(out, int64(p.at), 10)
		out = append(out, ' ')
		out = append(out, p.n.String()...)
		out = append(out, ' ')
	}
	return string(out)
}

func isOne(n num.Int) bool { return n.Cmp(num.Of(1)) == 0 }

// quotient tells a by b, rounded down if b is above 0.
func quotient(a, b num.Int) num.Int {
	out, _ := a.Quo(b)
	return out
}

// nearest tells the whole number next to a by b, which is above 0.
func nearest(a, b num.Int) num.Int { return quotient(a.Add(a).Add(b), b.Add(b)) }

// size tells n without its sign.
func size(n num.Int) num.Int {
	if n.Sign() < 0 {
		return n.Neg()
	}
	return n
}

// multiple tells the least number that both divide.
func multiple(a, b num.Int) num.Int { return a.Mul(quotient(b, a.Gcd(b))) }
