package num

import (
	"cmp"
	"slices"
	"strconv"
)

// A magnitude is a number that isn't below 0: its digits to the base 10^9, the least first, without noughts at the top; 0 has none. The base is a power of ten as numbers come and go as decimal texts: reading and telling them stays linear.
const (
	base   = 1_000_000_000
	places = 9 // decimal digits of one of the base
)

// magOf tells the magnitude of n.
func magOf(n uint64) []uint32 {
	var out []uint32
	for ; n > 0; n /= base {
		out = append(out, uint32(n%base))
	}
	return out
}

// smallMag tells the number of x, and true, if x is below 10^19; else 0, false. That bound lies between those of int64 and uint64, and the top digits tell it.
func smallMag(x []uint32) (uint64, bool) {
	if len(x) > 3 || len(x) == 3 && x[2] > 9 {
		return 0, false
	}
	var n uint64
	for _, digit := range slices.Backward(x) {
		n = n*base + uint64(digit)
	}
	return n, true
}

// parseMag tells the magnitude of a text of digits.
func parseMag(digits string) []uint32 {
	out := make([]uint32, (len(digits)+places-1)/places)
	for i, r := range digits {
		at := (len(digits) - 1 - i) / places
		out[at] = out[at]*10 + uint32(r-'0')
	}
	return trim(out)
}

// appendMag appends the decimal digits of x, which isn't 0.
func appendMag(out []byte, x []uint32) []byte {
	top := len(x) - 1
	out = strconv.AppendUint(out, uint64(x[top]), 10)
	for _, digit := range slices.Backward(x[:top]) {
		// The base added makes the text a 1 and all places, noughts ahead included.
		out = append(out, strconv.FormatUint(base+uint64(digit), 10)[1:]...)
	}
	return out
}

// trim takes the noughts at the top away.
func trim(x []uint32) []uint32 {
	for len(x) > 0 && x[len(x)-1] == 0 {
		x = x[:len(x)-1]
	}
	return x
}

// cmpMag tells -1, 0, 1: x is less than y, the same, more.
func cmpMag(x, y []uint32) int {
	if len(x) != len(y) {
		return cmp.Compare(len(x), len(y))
	}
	for i, digit := range slices.Backward(x) {
		if digit != y[i] {
			return cmp.Compare(digit, y[i])
		}
	}
	return 0
}

// addMag tells x and y together.
func addMag(x, y []uint32) []uint32 {
	if len(x) < len(y) {
		x, y = y, x
	}
	out := make([]uint32, 0, len(x)+1)
	var carry uint32
	for i, digit := range x {
		sum := digit + carry
		if i < len(y) {
			sum += y[i]
		}
		carry = 0
		if sum >= base {
			sum, carry = sum-base, 1
		}
		out = append(out, sum)
	}
	return trim(append(out, carry))
}

// subMag tells x without y, which is at most x.
func subMag(x, y []uint32) []uint32 {
	out := slices.Clone(x)
	takeAway(out, y, 1)
	return trim(out)
}

// takeAway changes x, which has at least as many digits as y, to x without so many times y; if that is below 0, it borrows from a digit past x's top, and tells true.
func takeAway(x, y []uint32, times uint64) bool {
	var carry uint64
	for i := range x {
		take := carry
		if i < len(y) {
			take += times * uint64(y[i])
		}
		carry = take / base
		low := uint32(take % base)
		if x[i] < low {
			x[i] += base
			carry++
		}
		x[i] -= low
	}
	return carry > 0
}

// scaleMag tells x so many times, with one digit more than x has, be it a nought.
func scaleMag(x []uint32, times uint32) []uint32 {
	out := make([]uint32, 0, len(x)+1)
	var carry uint64
	for _, digit := range x {
		carry += uint64(digit) * uint64(times)
		out = append(out, uint32(carry%base))
		carry /= base
	}
	return append(out, uint32(carry))
}

// mulMag tells x times y.
func mulMag(x, y []uint32) []uint32 {
	out := make([]uint32, len(x)+len(y))
	for i, digit := range x {
		var carry uint64
		for j := range y {
			carry += uint64(out[i+j]) + uint64(digit)*uint64(y[j])
			out[i+j] = uint32(carry % base)
			carry /= base
		}
		out[i+len(y)] = uint32(carry)
	}
	return trim(out)
}

// quoMag tells the quotient of x by y, which isn't 0, and what is left.
func quoMag(x, y []uint32) (quotient, left []uint32) {
	if cmpMag(x, y) < 0 {
		return nil, slices.Clone(x)
	}
	if len(y) == 1 {
		quotient, rest := quoDigit(x, y[0])
		return quotient, magOf(uint64(rest))
	}
	return quoLong(x, y)
}

// quoDigit tells the quotient of x by one digit, and what is left.
func quoDigit(x []uint32, by uint32) ([]uint32, uint32) {
	out := make([]uint32, len(x))
	var rest uint64
	for i, digit := range slices.Backward(x) {
		rest = rest*base + uint64(digit)
		out[i] = uint32(rest / uint64(by))
		rest %= uint64(by)
	}
	return trim(out), uint32(rest)
}

// quoLong is the division of the school, for y of two digits at least and x not less than y. Both are scaled first, so that y's top digit is at least half the base: a guess by the top digits is then hardly ever too great, and by 1 at most.
func quoLong(x, y []uint32) (quotient, left []uint32) {
	scale := base / (y[len(y)-1] + 1)
	rest := scaleMag(x, scale)
	by := scaleMag(y, scale)[:len(y)]
	out := make([]uint32, len(x)-len(y)+1)
	for i := range slices.Backward(out) {
		part := rest[i : i+len(y)+1]
		digit := guess(part, by)
		if takeAway(part, by, digit) {
			putBack(part, by)
			digit--
		}
		out[i] = uint32(digit)
	}
	left, _ = quoDigit(trim(rest), scale)
	return trim(out), left
}

// guess tells a digit of part by by, or one more than it: by the top two digits of by and the top three of part.
func guess(part, by []uint32) uint64 {
	n := len(by)
	top := uint64(part[n])*base + uint64(part[n-1])
	digit, rest := top/uint64(by[n-1]), top%uint64(by[n-1])
	for rest < base && (digit >= base || digit*uint64(by[n-2]) > rest*base+uint64(part[n-2])) {
		digit--
		rest += uint64(by[n-1])
	}
	return digit
}

// putBack undoes one time of a takeAway that borrowed: the carry past the top pays the borrowed digit back, and is dropped.
func putBack(part, by []uint32) {
	var carry uint32
	for i := range part {
		part[i] += carry
		if i < len(by) {
			part[i] += by[i]
		}
		carry = 0
		if part[i] >= base {
			part[i] -= base
			carry = 1
		}
	}
}
