package match

import (
	"math/bits"
	"strconv"

	"avow/api"
	"avow/euf"
)

// judge asks package euf what is equal by equations. It tells it a constant for each term, so that no term is gone through again where it stands within others, and so that terms may have any names.
//
// Terms that aren't made alike of equal ones are equal only if they are equal to a side of an equation. So the classes of these sides have tags, numbers from 1 on, and a tag is told bit by bit: of each bit there is a function that is true of what has it set. That takes fewer questions than asking of all sides.
type judge struct {
	euf  *euf.Euf
	tags int // so many
}

func newJudge(b *bank, equations [][2]int) *judge {
	j := &judge{euf: euf.New()}
	for i, x := range b.items {
		if len(x.parts) > 0 {
			j.assert(constant(i), applied(x))
		}
	}
	for _, x := range equations {
		j.assert(constant(x[0]), constant(x[1]))
	}
	for _, x := range equations {
		if j.tag(x[0]) == 0 {
			j.addTag(x[0])
		}
	}
	return j
}

func (j *judge) assert(x, y api.Term) {
	j.euf.Assert(api.Lit{Atom: api.Term{Op: api.TEq, L: []api.Term{x, y}}})
}

// tag tells the tag of the i-th term; 0, if it has none.
func (j *judge) tag(i int) int {
	tag := 0
	for b := range bits.Len(uint(j.tags)) {
		if j.euf.Equal(bitOf(b, i), yes()) {
			tag |= 1 << b
		}
	}
	return tag
}

// addTag gives the i-th term, and all that are equal to it, a new tag.
func (j *judge) addTag(i int) {
	j.tags++
	for b := range bits.Len(uint(j.tags)) {
		if j.tags>>b&1 == 1 {
			j.assert(bitOf(b, i), yes())
		}
	}
}

// constant tells what stands for the i-th term.
func constant(i int) api.Term { return api.Term{Op: api.TApp, Name: "term " + strconv.Itoa(i)} }

// applied tells how a term is made of its operands.
func applied(x item) api.Term {
	out := api.Term{Op: api.TApp, Name: "symbol " + strconv.Itoa(x.symbol)}
	for _, p := range x.parts {
		out.L = append(out.L, constant(p))
	}
	return out
}

// bitOf tells a bit of the i-th term's tag.
func bitOf(b, i int) api.Term {
	return api.Term{Op: api.TApp, Name: "bit " + strconv.Itoa(b), L: []api.Term{constant(i)}}
}

func yes() api.Term { return api.Term{Op: api.TTrue} }
