package smt

import (
	"avow/api"
	"avow/sat"
)

const (
	// firstLimit: so many steps are given to package sat at first, and so many times more, where it needs more.
	firstLimit = 64
	moreLimit  = 4
	// mostLimit: more would take too long, as a trace is gone through again by those who check it, in the square of its length.
	mostLimit = 1 << 16
	// inStep: so many literals of clauses are gone through in a step.
	inStep = 256
)

// line: a line of a certificate, its clause told by literals. A literal is the number of a formula, from 1 on, below 0 for its opposite; terms are told by their numbers in the bank.
type line struct {
	kind   int
	input  int // of LineInput
	clause []int
	terms  []int
	f      api.Farkas
}

// solver: formulas, and the lines that say what is known of them. It asks package sat for truths of all formulas that keep the lines; theories, whether these can be; and adds lines, until there are no such truths, or all is well with them.
type solver struct {
	sig       []api.Fun // those of the functions that stand in what is given
	given     []api.Term
	inputs    []int // the terms of what is given
	ground    bool  // no TAll stands in them
	rounds    int   // so many are left
	purse     *purse
	bank      *bank
	formulas  []int // by literals: their terms
	defined   int   // of so many formulas there are the lines that say what they are
	lines     []line
	clauses   [][]int // those of the lines
	length    int     // so many literals stand in them
	limit     int     // of package sat's steps
	theories  []theory
	inner     map[int]inner   // by atoms
	choices   map[int]choice  // by TIte terms
	worths    map[int]worth   // by equations that stand within terms
	thirds    map[int][2]int  // by equations of numbers: the two that say which one is less
	briefs    map[int][][]int // by literals of numbers: premises, each time, under which one with shorter names says the same
	open      []int           // equations that are to be decided, whether or not formulas need them
	isOpen    map[int]struct{}
	instances *instances
}

func newSolver(sig []api.Fun, l []api.Term, b api.Budget) *solver {
	s := &solver{
		given: l, ground: true, rounds: b.Rounds, purse: newPurse(b), bank: newBank(sig), limit: firstLimit,
		inner: map[int]inner{}, choices: map[int]choice{}, worths: map[int]worth{}, thirds: map[int][2]int{}, briefs: map[int][][]int{}, isOpen: map[int]struct{}{},
		instances: newInstances(),
	}
	s.theories = []theory{equality{s}, &arithmetic{s, map[int][]api.Lin{}}, arrangement{s}}
	for i := range l {
		id := s.bank.number(&l[i])
		s.ground = s.ground && s.bank.entries[id].ground
		s.inputs = append(s.inputs, id)
		s.add(line{kind: api.LineInput, input: i, clause: []int{s.literal(id)}})
		s.instances.collect(s.bank, id)
	}
	s.sig = s.bank.used()
	return s
}

// run tells the verdict, and what shows it.
func (s *solver) run() api.Proof {
	for {
		s.define()
		verdict, truths, trace := s.decide()
		switch verdict {
		case api.Unsat:
			return s.refuted(trace)
		case api.Unknown:
			return api.Proof{}
		}
		c := newCandidate(s, truths)
		switch {
		case s.learn(c):
		case s.purse.empty():
			return api.Proof{}
		case s.ground:
			return s.confirmed(c)
		case s.rounds < 1 || !s.instantiate(c):
			return api.Proof{}
		}
	}
}

// decide asks for truths of all formulas.
func (s *solver) decide() (int, []bool, [][]int) {
	for {
		s.purse.spend(s.limit + s.length/inStep)
		if s.purse.empty() {
			return api.Unknown, nil, nil
		}
		verdict, truths, trace, e := sat.Solve(len(s.formulas), s.clauses, s.limit)
		if e != api.OK || verdict != api.Unknown || s.limit == mostLimit {
			return verdict, truths, trace
		}
		s.limit *= moreLimit
	}
}

// learn asks the theories, and tells whether one of them had something to add.
func (s *solver) learn(c *candidate) bool {
	for _, t := range s.theories {
		c.refuted = t.learn(c) || c.refuted
	}
	return c.refuted
}

// add adds a line.
func (s *solver) add(x line) {
	s.lines = append(s.lines, x)
	s.clauses = append(s.clauses, x.clause)
	s.length += len(x.clause)
}

// literal tells the literal of a formula. A new one is defined later.
func (s *solver) literal(id int) int {
	x := &s.bank.entries[id]
	if x.literal == 0 {
		s.formulas = append(s.formulas, id)
		x.literal = len(s.formulas)
	}
	return x.literal
}

func (s *solver) literals(ids []int) []int {
	out := make([]int, len(ids))
	for i, id := range ids {
		out[i] = s.literal(id)
	}
	return out
}

// formula tells the term of a literal's formula.
func (s *solver) formula(literal int) int { return s.formulas[max(literal, -literal)-1] }

// atom tells what is known of a literal's formula.
func (s *solver) atom(literal int) *entry { return &s.bank.entries[s.formula(literal)] }

// told tells a literal as the layers below have it.
func (s *solver) told(literal int) api.Lit {
	return api.Lit{Neg: literal < 0, Atom: *s.atom(literal).term}
}
