package kinds

import (
	"avow/api"
	"avow/scope"
)

// Trees that contain themselves, or share lists so often that going through all of it has no end, are refused at these bounds.
const (
	most    = 1 << 25 // more parameters and expressions than can stand in 2^31 bytes
	deepest = 1 << 16
)

// program: declarations whose trees are gone through.
type program struct {
	l     []api.Decl
	defs  []int // places of the definitions in l
	left  int   // so many parameters and expressions may still be gone through
	depth int   // of the expression that is being gone through
}

// refusal: what is thrown at the first fault: nothing behind it counts.
type refusal struct {
	at  int
	err api.Errno
}

func newProgram(l []api.Decl) *program {
	return &program{l: l, defs: scope.Defs(l), left: most}
}

// refusedBy has a way through trees gone, and tells why it didn't come to its end.
func refusedBy(way func()) (wrong error) {
	defer func() {
		if thrown := recover(); thrown != nil {
			why := thrown.(refusal)
			wrong = &api.PlaceError{At: why.at, Err: why.err}
		}
	}()
	way()
	return nil
}

// refuse ends the way at a place.
func refuse(at int, err api.Errno) {
	panic(refusal{at: at, err: err})
}

// enter begins with an expression, and leave ends it.
func (p *program) enter(e *api.Expr) {
	p.spend(e.At)
	if p.depth == deepest {
		refuse(e.At, api.ErrKind)
	}
	p.depth++
}

// spend takes one parameter or expression of those that are left.
func (p *program) spend(at int) {
	if p.left == 0 {
		refuse(at, api.ErrKind)
	}
	p.left--
}

func (p *program) leave() { p.depth-- }

// def tells the definition of that number; nil, if there is none.
func (p *program) def(number int) *api.Decl {
	if number < 0 || number >= len(p.defs) {
		return nil
	}
	return &p.l[p.defs[number]]
}
