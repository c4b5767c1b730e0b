// Package exprs: expressions that the tests of several layers try.
package exprs

import "gristmill/api"

// Grow is all expressions of each size up to n: of 1 the leaves, else what is made of one or of two, which is one larger than these are together.
func Grow(n int, leaves []api.Expr, unary []func(api.Expr) api.Expr, binary []func(a, b api.Expr) api.Expr) [][]api.Expr {
	l := [][]api.Expr{nil, leaves}
	for size := 2; size <= n; size++ {
		var of []api.Expr
		for _, e := range l[size-1] {
			for _, f := range unary {
				of = append(of, f(e))
			}
		}
		for k := 1; k < size-1; k++ {
			for _, a := range l[k] {
				for _, b := range l[size-1-k] {
					for _, f := range binary {
						of = append(of, f(a, b))
					}
				}
			}
		}
		l = append(l, of)
	}
	return l
}

// Endless is what the form makes of an expression, with itself in place of that one.
func Endless(form func(api.Expr) api.Expr) api.Expr {
	e := form(api.Expr{})
	for i, part := range e.L {
		if part.Op == 0 {
			e.L[i] = e
		}
	}
	for i, a := range e.Alts {
		if a.E.Op == 0 {
			e.Alts[i].E = e
		}
	}
	return e
}
