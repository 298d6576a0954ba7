package norm

import (
	"avow/api"
	"avow/scope"
)

// Beyond these bounds it is as if there were no more fuel.
const (
	mostCalls = 10000
	deepest   = 100000
	most      = 1 << 25 // more expressions than can stand in 2^31 bytes: a tree that has more contains itself, or shares lists so often that going through all of it has no end
)

// reducer reduces expressions, over the definitions that they may call.
type reducer struct {
	l     []api.Decl
	defs  []int // places of the definitions in l
	fuel  int
	calls int // whose bodies are being reduced within one another
	depth int // of the expression that is being reduced, with all within which it is
	left  int // so many expressions of the tree at hand may still be reduced
	room  int // so many operators may still become the answer's
}

func newReducer(l []api.Decl, fuel int) *reducer {
	return &reducer{l: l, defs: scope.Defs(l), fuel: min(max(fuel, 0), api.MaxFuel), left: most, room: api.MaxNodes}
}

// stopped has a way gone, and tells why it didn't come to its end.
func stopped(way func()) (err api.Errno) {
	defer func() {
		if thrown := recover(); thrown != nil {
			err = thrown.(api.Errno)
		}
	}()
	way()
	return api.OK
}

// stop ends the way: what was reduced so far is of no use.
func stop() { panic(api.ErrFuel) }

// enter begins with an expression, and leave ends it.
func (r *reducer) enter() {
	if r.depth == deepest || r.left == 0 {
		stop()
	}
	r.depth++
	r.left--
}

func (r *reducer) leave() { r.depth-- }

// stays tells an expression that is no value, and so is part of the answer for good, as are its operands that are values: all others have been counted ahead of it.
func (r *reducer) stays(e api.Expr) api.Expr {
	r.room--
	for i := range e.L {
		if Value(e.L[i]) {
			r.room -= 1 + len(e.L[i].L)
		}
	}
	if r.room < 0 {
		stop()
	}
	return e
}

// pure tells the Pure definition of that number; nil, if there is none.
func (r *reducer) pure(number int) *api.Decl {
	if number < 0 || number >= len(r.defs) || r.l[r.defs[number]].Effect != api.EfPure {
		return nil
	}
	return &r.l[r.defs[number]]
}
