package norm

import "avow/api"

// same goes through two trees at once; of what contains itself it tells no, once no more may be held against one another, or all is too deep.
func same(a, b *api.Expr, left *int, depth int) bool {
	if *left == 0 || depth > deepest || !alike(a, b) {
		return false
	}
	*left--
	for i := range a.L {
		if !same(&a.L[i], &b.L[i], left, depth+1) {
			return false
		}
	}
	return true
}

// alike tells whether two expressions are the same, but for their operands.
func alike(a, b *api.Expr) bool {
	return a.Op == b.Op && a.N == b.N && a.B == b.B && a.I == b.I && len(a.L) == len(b.L) && (a.Name == b.Name || bindsName(a.Op))
}

// bindsName tells whether an operator's name is a binder's, and says nothing.
func bindsName(op int) bool {
	return op == api.ELet || op == api.ETry || op == api.EVar
}
