package cnf

import (
	"cmp"
	"math"
	"slices"
	"strconv"

	"avow/api"
)

// Literals that are true, and false, whatever the names are. No clause has them.
const (
	yes = math.MaxInt
	no  = -yes
)

// mostNamed: so many terms stand in the names behind the atoms: each of these is told as the formula that it stands for, and formulas nested in one another would else be told again and again without bound.
const mostNamed = 1 << 20

// assertion: a formula, and what it is said to be: yes, or no.
type assertion struct{ number, so int }

// maker makes clauses. Formulas are told by their numbers in the catalog.
type maker struct {
	catalog  *catalog
	atoms    int   // so many
	named    []int // the formulas that have a name
	literals []int // by formulas; 0: not told yet
	asserted map[assertion]struct{}
	clauses  [][]int
}

func newMaker(c *catalog, atoms []int) *maker {
	m := &maker{catalog: c, atoms: len(atoms), literals: make([]int, len(c.entries)), asserted: map[assertion]struct{}{}}
	for _, a := range atoms {
		m.literals[a] = m.name(a)
	}
	return m
}

// name tells the literal of a new name.
func (m *maker) name(number int) int {
	m.named = append(m.named, number)
	return len(m.named)
}

// assert adds clauses that say that a formula is so. It needs no name for what is so just if all of its operands are.
func (m *maker) assert(number, so int) {
	key := assertion{number, so}
	if _, ok := m.asserted[key]; ok {
		return
	}
	m.asserted[key] = struct{}{}
	switch x := m.catalog.formula(number).(type) {
	case negation:
		m.assert(x.of, -so)
		return
	case conjunction:
		if so == yes {
			m.assertAll(x.of, yes)
			return
		}
	case disjunction:
		if so == no {
			m.assertAll(x.of, no)
			return
		}
	case implication:
		if so == no {
			m.assert(x.from, yes)
			m.assert(x.to, no)
			return
		}
	}
	m.define(so, number)
}

func (m *maker) assertAll(numbers []int, so int) {
	for _, number := range numbers {
		m.assert(number, so)
	}
}

// literal tells a literal that is true just if the formula is.
func (m *maker) literal(number int) int {
	if m.literals[number] == 0 {
		m.literals[number] = m.newLiteral(number)
	}
	return m.literals[number]
}

func (m *maker) newLiteral(number int) int {
	switch x := m.catalog.formula(number).(type) {
	case constant:
		if x.holds {
			return yes
		}
		return no
	case negation:
		return -m.literal(x.of)
	case misshapen:
		return m.name(number)
	}
	// Formulas within are named first, so that the room for names goes to the small ones.
	m.literalsOf(m.catalog.operands(number))
	name := m.name(number)
	m.define(name, number)
	return name
}

func (m *maker) literalsOf(numbers []int) []int {
	out := make([]int, len(numbers))
	for i, number := range numbers {
		out[i] = m.literal(number)
	}
	return out
}

// define adds clauses that say that a literal is true just if the formula is.
func (m *maker) define(literal, number int) {
	switch x := m.catalog.formula(number).(type) {
	case conjunction:
		m.defineAll(literal, m.literalsOf(x.of))
	case disjunction:
		m.defineAny(literal, m.literalsOf(x.of))
	case implication:
		m.defineAny(literal, []int{-m.literal(x.from), m.literal(x.to)})
	case equivalence:
		right := m.literal(x.right)
		m.defineChoice(literal, m.literal(x.left), right, -right)
	case choice:
		m.defineChoice(literal, m.literal(x.asked), m.literal(x.then), m.literal(x.other))
	default:
		m.defineAll(literal, []int{m.literal(number)})
	}
}

func (m *maker) defineAll(literal int, of []int) {
	back := []int{literal}
	for _, x := range of {
		m.clause(-literal, x)
		back = append(back, -x)
	}
	m.clause(back...)
}

func (m *maker) defineAny(literal int, of []int) {
	opposites := make([]int, len(of))
	for i, x := range of {
		opposites[i] = -x
	}
	m.defineAll(-literal, opposites)
}

func (m *maker) defineChoice(literal, asked, then, other int) {
	m.clause(-literal, -asked, then)
	m.clause(-literal, asked, other)
	m.clause(literal, -asked, -then)
	m.clause(literal, asked, -other)
}

// clause adds a clause, in order of names, each number once; none, if it would be true whatever the names are.
func (m *maker) clause(l ...int) {
	out := make([]int, 0, len(l))
	for _, x := range l {
		if x == yes {
			return
		}
		if x != no {
			out = append(out, x)
		}
	}
	slices.SortFunc(out, byName)
	out = slices.Compact(out)
	for i := 1; i < len(out); i++ {
		if out[i] == -out[i-1] {
			return
		}
	}
	m.clauses = append(m.clauses, out)
}

func byName(a, b int) int {
	return cmp.Or(cmp.Compare(max(a, -a), max(b, -b)), cmp.Compare(a, b))
}

// names tells the atoms, then all other formulas that have a name: each as it stands, while there is room, else by a name that is no word, and so none of a formula's.
func (m *maker) names() []api.Term {
	out := m.catalog.copies(m.named[:m.atoms])
	room := mostNamed
	for _, number := range m.named[m.atoms:] {
		e := m.catalog.entries[number]
		if e.size > room {
			out = append(out, api.Term{Op: api.TApp, Name: "#" + strconv.Itoa(len(out)+1)})
			continue
		}
		room -= e.size
		out = append(out, copied(e.term))
	}
	return out
}
