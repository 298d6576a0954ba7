// Package num: Whole numbers without bounds: see doc/01-num.md.
package num

import (
	"cmp"
	"math"
	"math/bits"
	"slices"
	"strconv"
	"strings"
)

// Int: a whole number. Most numbers of a program are small, so one that is an int64 stands in n alone, and mag is nil. Of any other, mag is the number without its sign, and n the sign, -1 or 1. Each number has one form only.
type Int struct {
	n   int64
	mag []uint32
}

// Of tells n as an Int.
func Of(n int64) Int { return Int{n: n} }

// Parse tells the number of a right text, and true; of another text 0, false.
func Parse(s string) (Int, bool) {
	digits, below := strings.CutPrefix(s, "-")
	if !areDigits(digits) {
		return Int{}, false
	}
	if digits[0] == '0' && (below || len(digits) > 1) {
		return Int{}, false
	}
	return ofMag(below, parseMag(digits)), true
}

// areDigits tells whether s is decimal digits and nothing else, one at least.
func areDigits(s string) bool {
	for _, r := range s {
		if r < '0' || r > '9' {
			return false
		}
	}
	return s != ""
}

// String tells the right text.
func (a Int) String() string {
	if a.mag == nil {
		return strconv.FormatInt(a.n, 10)
	}
	var out []byte
	if a.n < 0 {
		out = append(out, '-')
	}
	return string(appendMag(out, a.mag))
}

// Add tells a and b together.
func (a Int) Add(b Int) Int {
	if a.mag == nil && b.mag == nil {
		sum := a.n + b.n
		// A sum that wrapped round has the sign of neither.
		if (sum^a.n)&(sum^b.n) >= 0 {
			return Of(sum)
		}
	}
	x, y := a.magnitude(), b.magnitude()
	if (a.n < 0) == (b.n < 0) {
		return ofMag(a.n < 0, addMag(x, y))
	}
	if cmpMag(x, y) >= 0 {
		return ofMag(a.n < 0, subMag(x, y))
	}
	return ofMag(b.n < 0, subMag(y, x))
}

// Sub tells a without b.
func (a Int) Sub(b Int) Int { return a.Add(b.Neg()) }

// Neg tells a's opposite.
func (a Int) Neg() Int {
	if a.mag == nil && a.n != math.MinInt64 {
		return Of(-a.n)
	}
	// By ofMag, as the opposite of 2^63 is an int64, and that of -2^63 is none.
	return ofMag(a.n >= 0, slices.Clone(a.magnitude()))
}

// Mul tells a times b.
func (a Int) Mul(b Int) Int {
	below := (a.n < 0) != (b.n < 0)
	if a.mag == nil && b.mag == nil {
		high, low := bits.Mul64(unsigned(a.n), unsigned(b.n))
		if n, ok := signed(below, low); ok && high == 0 {
			return Of(n)
		}
	}
	return ofMag(below, mulMag(a.magnitude(), b.magnitude()))
}

// Quo tells the quotient of a by b, and what is left, which is never below 0; of b 0: 0, a.
func (a Int) Quo(b Int) (Int, Int) {
	if b.Sign() == 0 {
		return Int{}, a.clone()
	}
	// -2^63 by -1 is no int64.
	if a.mag == nil && b.mag == nil && b.n != -1 {
		return quoSmall(a.n, b.n)
	}
	y := b.magnitude()
	quotient, left := quoMag(a.magnitude(), y)
	if a.n < 0 && len(left) > 0 {
		quotient, left = addMag(quotient, []uint32{1}), subMag(y, left)
	}
	return ofMag((a.n < 0) != (b.n < 0), quotient), ofMag(false, left)
}

// quoSmall tells the same of int64s, b neither 0 nor -1.
func quoSmall(a, b int64) (Int, Int) {
	quotient, left := a/b, a%b
	// Go rounds towards 0, and leaves a number with a's sign.
	switch {
	case left >= 0:
	case b > 0:
		quotient, left = quotient-1, left+b
	default:
		quotient, left = quotient+1, left-b
	}
	return Of(quotient), Of(left)
}

// Cmp tells -1, 0, 1: a is less than b, the same, more.
func (a Int) Cmp(b Int) int {
	if a.mag == nil && b.mag == nil || a.Sign() != b.Sign() {
		return cmp.Compare(a.n, b.n)
	}
	order := cmpMag(a.magnitude(), b.magnitude())
	if a.n < 0 {
		return -order
	}
	return order
}

// Sign tells -1, 0, 1: a is below 0, 0, above it.
func (a Int) Sign() int { return cmp.Compare(a.n, 0) }

// Small tells the number, and true, if it is an int64; else 0, false.
func (a Int) Small() (int64, bool) {
	if a.mag != nil {
		return 0, false
	}
	return a.n, true
}

// Gcd tells the greatest number that divides both, at least 0; of 0 and 0: 0.
func (a Int) Gcd(b Int) Int {
	a, b = a.abs(), b.abs()
	for a.mag != nil || b.mag != nil {
		if b.Sign() == 0 {
			return a
		}
		_, left := a.Quo(b)
		a, b = b, left
	}
	x, y := a.n, b.n
	for y != 0 {
		x, y = y, x%y
	}
	return Of(x)
}

// abs tells a without its sign.
func (a Int) abs() Int {
	if a.n < 0 {
		return a.Neg()
	}
	return a.clone()
}

// clone tells a in memory of its own: no answer shares any with an argument.
func (a Int) clone() Int { return Int{n: a.n, mag: slices.Clone(a.mag)} }

// magnitude tells a without its sign, to be read only: it may be a's own memory.
func (a Int) magnitude() []uint32 {
	if a.mag != nil {
		return a.mag
	}
	return magOf(unsigned(a.n))
}

// ofMag tells the number of a magnitude and a sign. It may keep mag, which is so no other number's.
func ofMag(below bool, mag []uint32) Int {
	if size, ok := smallMag(mag); ok {
		if n, ok := signed(below, size); ok {
			return Of(n)
		}
	}
	if below {
		return Int{n: -1, mag: mag}
	}
	return Int{n: 1, mag: mag}
}

// unsigned tells n without its sign; by wrap-round also that of the least int64.
func unsigned(n int64) uint64 {
	if n < 0 {
		return -uint64(n)
	}
	return uint64(n)
}

// signed tells the int64 of a size and a sign, and true; else 0, false.
func signed(below bool, size uint64) (int64, bool) {
	switch {
	case below && size <= 1<<63:
		return int64(-size), true
	case !below && size < 1<<63:
		return int64(size), true
	}
	return 0, false
}
