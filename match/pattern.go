package match

import (
	"slices"

	"avow/api"
	"avow/term"
)

// node: a part of a pattern: a hole, a made, or a loose.
type node interface {
	part()
}

// hole: a variable of the TAll, by its place in Vars.
type hole struct{ place int }

// made: an operator, and its operands.
type made struct {
	symbol int
	parts  []node
}

// loose: a variable that the TAll doesn't bind, so that no term is ever equal to what it stands in.
type loose struct{}

func (hole) part()  {}
func (made) part()  {}
func (loose) part() {}

// patternReader reads patterns, and marks the variables that they name.
type patternReader struct {
	bank  *bank
	vars  []api.Bound
	named []bool
}

// readPatterns tells the patterns of all, and true; or false, if it isn't what Find asks for.
func readPatterns(b *bank, all api.Term) ([]node, bool) {
	if all.Op != api.TAll || len(all.L) != 1 || len(all.Pat) > mostPats || !areBinders(all.Vars) {
		return nil, false
	}
	r := patternReader{bank: b, vars: all.Vars, named: make([]bool, len(all.Vars))}
	out := make([]node, len(all.Pat))
	for i := range all.Pat {
		p := &all.Pat[i]
		if p.Op != api.TApp || term.Depth(*p) > api.MaxDepth || term.Size(*p) > api.MaxNodes {
			return nil, false
		}
		n, ok := r.node(p)
		if !ok {
			return nil, false
		}
		out[i] = n
	}
	return out, !slices.Contains(r.named, false)
}

// areBinders tells whether chapter 3 takes vars. It asks term.Check of a TAll in which nothing else can be wrong.
func areBinders(vars []api.Bound) bool {
	if len(vars) > mostVars {
		return false
	}
	f := api.Fun{Name: "f", Out: api.SortBool}
	p := api.Term{Op: api.TApp, Name: "f"}
	for _, v := range vars {
		f.Args = append(f.Args, v.Sort)
		p.L = append(p.L, api.Term{Op: api.TVar, Name: v.Name, Sort: v.Sort})
	}
	all := api.Term{Op: api.TAll, Vars: vars, Pat: []api.Term{p}, L: []api.Term{{Op: api.TTrue}}}
	_, e := term.Check([]api.Fun{f}, all)
	return e == api.OK
}

// node tells a part of a pattern, and true; or false, if something stands in it that may not.
func (r *patternReader) node(t *api.Term) (node, bool) {
	if !isOfPattern(t.Op) {
		return nil, false
	}
	parts := make([]node, len(t.L))
	for i := range t.L {
		n, ok := r.node(&t.L[i])
		if !ok {
			return nil, false
		}
		parts[i] = n
	}
	if t.Op == api.TVar {
		return r.variable(t.Name), true
	}
	return made{symbol: r.bank.symbol(t), parts: parts}, true
}

// variable marks what is named. A TVar's own sort, and operands, are replaced with it, and so say nothing.
func (r *patternReader) variable(name string) node {
	for place, v := range r.vars {
		if v.Name == name {
			r.named[place] = true
			return hole{place}
		}
	}
	return loose{}
}

// isOfPattern tells whether an operator may stand in a pattern.
func isOfPattern(op int) bool {
	switch op {
	case api.TApp, api.TVar, api.TNum, api.TAdd, api.TSub, api.TNeg, api.TMul:
		return true
	}
	return false
}
