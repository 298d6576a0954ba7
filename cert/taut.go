package cert

import "avow/api"

// What is known of a formula's truth.
const (
	isFalse = iota - 1
	unknown
	isTrue
)

// isTaut tells whether a clause has a literal and its opposite, or has a first literal that is true by its atom's connective, all others being false.
func (b *bank) isTaut(clause []int) bool {
	if len(clause) == 0 {
		return false
	}
	others := map[int]int{} // by numbers of atoms: what they are, if these literals are false
	for _, literal := range clause[1:] {
		number, truth := reading(-literal)
		if others[number] == -truth {
			return true
		}
		others[number] = truth
	}
	first, truth := reading(clause[0])
	if others[first] == truth {
		return true
	}
	return b.worth(first, func(number int) int {
		if told := others[number]; told != unknown {
			return told
		}
		return constant(b.items[number].op)
	}) == truth
}

// reading tells the number of a literal's atom, and what that is, if the literal is true.
func reading(literal int) (int, int) {
	if literal < 0 {
		return -literal - 1, isFalse
	}
	return literal - 1, isTrue
}

// constant tells what TTrue and TFalse are; all others are unknown.
func constant(op int) int {
	switch op {
	case api.TTrue:
		return isTrue
	case api.TFalse:
		return isFalse
	}
	return unknown
}

// worth tells what a formula is by its connective; truth tells what its operands are.
func (b *bank) worth(number int, truth func(int) int) int {
	x := b.items[number]
	l := x.parts
	switch x.op {
	case api.TNot:
		return -truth(l[0])
	case api.TAnd:
		return least(l, truth)
	case api.TOr:
		return -least(l, func(number int) int { return -truth(number) })
	case api.TImp:
		return max(-truth(l[0]), truth(l[1]))
	case api.TIff, api.TEq:
		return truth(l[0]) * truth(l[1])
	case api.TIte:
		return choice(truth(l[0]), truth(l[1]), truth(l[2]))
	}
	return constant(x.op)
}

// least tells the least truth of all: false, if one is, and true, if all are.
func least(l []int, truth func(int) int) int {
	out := isTrue
	for _, number := range l {
		out = min(out, truth(number))
	}
	return out
}

// choice tells what a TIte is: the side that is taken, or what both are.
func choice(asked, then, other int) int {
	switch {
	case asked == isTrue:
		return then
	case asked == isFalse:
		return other
	case then == other:
		return then
	}
	return unknown
}
