package norm

import "avow/api"

// binders tells, of a variable by its I, the value that stands in its place, or, if there is none (nil), its I among the binders that stay.
type binders func(i int) (*api.Expr, int)

// free: no binder of the tree stands above the variable.
func free(i int) (*api.Expr, int) { return nil, i }

// with tells the binders and, within them, one in whose place a value is put: it is gone.
func (of binders) with(value *api.Expr) binders {
	return func(i int) (*api.Expr, int) {
		if i == 0 {
			return value, 0
		}
		return of(i - 1)
	}
}

// under tells the binders and, within them, one that stays.
func (of binders) under() binders {
	return func(i int) (*api.Expr, int) {
		if i == 0 {
			return nil, 0
		}
		value, outer := of(i - 1)
		if value != nil {
			return value, 0
		}
		return nil, outer + 1
	}
}
