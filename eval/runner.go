package eval

import (
	"avow/api"
	"avow/num"
	"avow/scope"
)

// Beyond these bounds it is as if there were no more fuel.
const (
	mostCalls = 10000
	deepest   = 100000
	most      = 1 << 25 // more expressions than can stand in 2^31 bytes: a body that has more contains itself, or shares lists so often that going through all of it has no end
)

// runner evaluates expressions, over the definitions that they may call.
type runner struct {
	l     []api.Decl
	defs  []int // places of the definitions in l
	cells []num.Int
	old   []num.Int // the cells as the run began
	fuel  int
}

func newRunner(l []api.Decl, old, cells []string, fuel int) *runner {
	many := len(scope.Cells(l))
	return &runner{l: l, defs: scope.Defs(l), cells: numbers(cells, many), old: numbers(old, many), fuel: min(max(fuel, 0), api.MaxFuel)}
}

// definition tells the definition of that number; nil, if there is none.
func (r *runner) definition(number int) *api.Decl {
	if number < 0 || number >= len(r.defs) {
		return nil
	}
	return &r.l[r.defs[number]]
}

// place: where an expression stands while it is evaluated. It is handed down as a value, so that nothing of it has to be put right where raising leads out of it.
type place struct {
	binders []value // the innermost last
	depth   int     // expressions that are being evaluated within one another
	body    *body   // in which it stands
}

// body: of a call, or the formulas of a contract.
type body struct {
	calls int // that are being evaluated within one another, this one too
	left  int // so many of its expressions may still be evaluated
}

// outermost tells the place of what stands within no call.
func outermost() place { return place{body: &body{left: most}} }

// with tells the place within a binder of that value.
func (at place) with(v value) place {
	at.binders = append(at.binders, v)
	return at
}

// called tells the place of the body of a call that stands here.
func (at place) called(args []value) place {
	return place{binders: args, depth: at.depth, body: &body{calls: at.body.calls + 1, left: most}}
}

// ended: how an evaluation ends that comes to no value, with the number that is raised, if one is.
type ended struct {
	out    int
	raised num.Int
}

// stop ends the evaluation with an outcome that nothing in the program can catch.
func stop(out int) { panic(ended{out: out}) }

// attempt tells the value that an evaluation comes to, or how else it ends.
func attempt(evaluation func() value) (v value, end ended) {
	defer func() {
		if thrown := recover(); thrown != nil {
			end = thrown.(ended)
		}
	}()
	return evaluation(), ended{}
}
