package term

import (
	"avow/api"
	"avow/num"
)

// checker: what is known around a term: functions, and the variables that are bound.
type checker struct {
	funs  map[string]api.Fun
	bound map[string][]int // by name: the sorts, the innermost one last
}

func newChecker(sig []api.Fun) *checker {
	c := &checker{funs: make(map[string]api.Fun, len(sig)), bound: map[string][]int{}}
	for _, f := range sig {
		if _, ok := c.funs[f.Name]; !ok {
			c.funs[f.Name] = f
		}
	}
	return c
}

// term tells t's sort, or the first error: its shape's, its operands', their sorts'.
func (c *checker) term(t *api.Term) (int, api.Errno) {
	n := view(t)
	if e := c.shape(n); e != api.OK {
		return 0, e
	}
	if x, ok := n.(variable); ok {
		return c.variable(x)
	}
	if x, ok := n.(universal); ok {
		return c.universal(x)
	}
	sorts := make([]int, len(t.L))
	for i := range t.L {
		sort, e := c.term(&t.L[i])
		if e != api.OK {
			return 0, e
		}
		sorts[i] = sort
	}
	own, ok := c.sortOf(n, sorts)
	if !ok {
		return 0, api.ErrTermSort
	}
	return own, api.OK
}

// shape tells what is wrong with n whatever its operands are.
func (c *checker) shape(n node) api.Errno {
	if x, ok := n.(application); ok {
		return c.applicationShape(x)
	}
	if !hasShape(n) {
		return api.ErrTermForm
	}
	return api.OK
}

func (c *checker) applicationShape(x application) api.Errno {
	if !isWord(x.Name) {
		return api.ErrTermForm
	}
	f, ok := c.funs[x.Name]
	switch {
	case !ok:
		return api.ErrTermName
	case len(x.L) != len(f.Args):
		return api.ErrTermForm
	}
	return api.OK
}

// hasShape tells whether the shape of n, which is no application, is right.
func hasShape(n node) bool {
	if x, ok := n.(numeral); ok {
		_, right := num.Parse(x.N)
		return right && len(x.L) == 0
	}
	if x, ok := n.(truth); ok {
		return len(x.L) == 0
	}
	if x, ok := n.(operation); ok {
		return hasOperands(x)
	}
	if x, ok := n.(variable); ok {
		return isWord(x.Name) && len(x.L) == 0
	}
	if x, ok := n.(universal); ok {
		return len(x.L) == 1 && len(x.Pat) > 0 && areBinders(x.Vars)
	}
	return false
}

func hasOperands(x operation) bool {
	count := rules[x.Op].count
	if count != anyNumber && count != len(x.L) {
		return false
	}
	if x.Op != api.TMul {
		return true
	}
	_, ok := view(&x.L[0]).(numeral)
	return ok
}

// areBinders tells whether a TAll may bind vars.
func areBinders(vars []api.Bound) bool {
	seen := map[string]struct{}{}
	for _, v := range vars {
		if !isWord(v.Name) || !isSort(v.Sort) {
			return false
		}
		seen[v.Name] = struct{}{}
	}
	return len(vars) > 0 && len(seen) == len(vars)
}

// sortOf tells the sort of n, whose operands are of these sorts, and true, if they may be; else 0, false.
func (c *checker) sortOf(n node, sorts []int) (int, bool) {
	if x, ok := n.(application); ok {
		return applied(c.funs[x.Name], sorts)
	}
	if x, ok := n.(operation); ok {
		return operated(x.Op, sorts)
	}
	if _, ok := n.(numeral); ok {
		return api.SortInt, true
	}
	return api.SortBool, true
}

func applied(f api.Fun, sorts []int) (int, bool) {
	for i, sort := range sorts {
		if sort != f.Args[i] {
			return 0, false
		}
	}
	if !isSort(f.Out) {
		return 0, false
	}
	return f.Out, true
}

func operated(op int, sorts []int) (int, bool) {
	if op == api.TIte {
		if sorts[0] != api.SortBool || sorts[1] != sorts[2] {
			return 0, false
		}
		return sorts[1], true
	}
	r := rules[op]
	each := r.each
	if each == alike {
		each = sorts[0]
	}
	for _, sort := range sorts {
		if sort != each {
			return 0, false
		}
	}
	return r.own, true
}

func (c *checker) variable(x variable) (int, api.Errno) {
	sorts := c.bound[x.Name]
	switch {
	case len(sorts) == 0:
		return 0, api.ErrTermName
	case sorts[len(sorts)-1] != x.Sort:
		return 0, api.ErrTermSort
	}
	return x.Sort, api.OK
}

func (c *checker) universal(x universal) (int, api.Errno) {
	for _, v := range x.Vars {
		c.bound[v.Name] = append(c.bound[v.Name], v.Sort)
	}
	e := c.underBinders(x)
	for _, v := range x.Vars {
		c.bound[v.Name] = c.bound[v.Name][:len(c.bound[v.Name])-1]
	}
	if e != api.OK {
		return 0, e
	}
	return api.SortBool, api.OK
}

// underBinders tells what is wrong in a TAll's body, then in its patterns.
func (c *checker) underBinders(x universal) api.Errno {
	sort, e := c.term(&x.L[0])
	switch {
	case e != api.OK:
		return e
	case sort != api.SortBool:
		return api.ErrTermSort
	}
	named := map[string]struct{}{}
	for i := range x.Pat {
		if e := c.pattern(&x.Pat[i], named); e != api.OK {
			return e
		}
	}
	for _, v := range x.Vars {
		if _, ok := named[v.Name]; !ok {
			return api.ErrTermForm
		}
	}
	return api.OK
}

// pattern tells what is wrong with a pattern, and puts the variables in it into named.
func (c *checker) pattern(p *api.Term, named map[string]struct{}) api.Errno {
	if e := withinLimits(p); e != api.OK {
		return e
	}
	if _, ok := view(p).(application); !ok || !isOfPattern(p, named) {
		return api.ErrTermForm
	}
	_, e := c.term(p)
	return e
}

// isOfPattern tells whether only such operators stand in t as may stand in a pattern.
func isOfPattern(t *api.Term, named map[string]struct{}) bool {
	n := view(t)
	if x, ok := n.(variable); ok {
		named[x.Name] = struct{}{}
	}
	// TAdd, TSub, TNeg and TMul are the operations that are numbers whatever they stand on.
	if x, ok := n.(operation); ok && rules[x.Op].own != api.SortInt {
		return false
	}
	if _, ok := n.(truth); ok {
		return false
	}
	if _, ok := n.(universal); ok {
		return false
	}
	if _, ok := n.(stranger); ok {
		return false
	}
	for i := range t.L {
		if !isOfPattern(&t.L[i], named) {
			return false
		}
	}
	return true
}

func isSort(sort int) bool { return sort >= api.SortInt && sort <= api.SortObj }

// isWord tells whether name may be that of a function or a variable.
func isWord(name string) bool {
	if len(name) == 0 || len(name) > api.MaxName || isReserved(name) {
		return false
	}
	for i, r := range name {
		digit := r >= '0' && r <= '9'
		letter := r >= 'A' && r <= 'Z' || r >= 'a' && r <= 'z' || r == '_'
		if !letter && (!digit || i == 0) {
			return false
		}
	}
	return true
}

// isReserved tells whether a text of a term has name as a word of its own.
func isReserved(name string) bool {
	switch name {
	case "not", "and", "or", "iff", "ite", "neg", "forall", "pattern", "true", "false", "int", "bool", "obj":
		return true
	}
	return false
}
