package lia

import "avow/num"

// purse: the units of work that are left. A unit is what is reckoned with one part of a sum, or for one quantity, if its numbers are small.
type purse struct{ left int }

func (p *purse) spend(units int) { p.left -= units }

// empty tells whether more was spent than there was. Then all that is under way is given up, whatever state it is in, and the verdict is Unknown.
func (p *purse) empty() bool { return p.left < 0 }

// digitsAtOnce: long numbers are reckoned by so many digits at once.
const digitsAtOnce = 9

// weight tells the units that reckoning with n takes: products and common divisors take the square of a number's length.
func weight(n num.Int) int {
	if _, small := n.Small(); small {
		return 1
	}
	length := len(n.String())/digitsAtOnce + 1
	return length * length
}
