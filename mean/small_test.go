package mean_test

import (
	"slices"
	"testing"

	"gristmill/api"
	"gristmill/exprs"
	"gristmill/free"
	"gristmill/scope"
)

func v(name string) api.Expr { return api.Expr{Op: api.Var, Name: name} }

func con(name string) api.Expr { return api.Expr{Op: api.Con, Name: name} }

func fn(e api.Expr, names ...string) api.Expr {
	return api.Expr{Op: api.Fn, Names: names, L: []api.Expr{e}}
}

func app(l ...api.Expr) api.Expr { return api.Expr{Op: api.App, L: l} }

func let(name string, a, b api.Expr) api.Expr {
	return api.Expr{Op: api.Let, Names: []string{name}, L: []api.Expr{a, b}}
}

func prim(name string, l ...api.Expr) api.Expr { return api.Expr{Op: api.Prim, Name: name, L: l} }

// shapes is ways to make an expression of two.
func shapes() []func(a, b api.Expr) api.Expr {
	alt := func(take int, name string, e api.Expr, names ...string) api.Alt {
		return api.Alt{Take: take, Name: name, Names: names, E: e}
	}
	return []func(a, b api.Expr) api.Expr{
		func(a, b api.Expr) api.Expr { return app(a, b) },
		func(a, b api.Expr) api.Expr { return app(con("P"), a, b) },
		func(a, b api.Expr) api.Expr { return app(a, b, b) },
		func(a, b api.Expr) api.Expr { return let("x", a, b) },
		func(a, b api.Expr) api.Expr { return let("y", a, b) },
		func(a, b api.Expr) api.Expr { return prim("+", a, b) },
		func(a, b api.Expr) api.Expr { return prim("seq", a, b) },
		func(a, b api.Expr) api.Expr {
			return api.Expr{Op: api.Case, L: []api.Expr{a}, Alts: []api.Alt{alt(api.TakeCon, "P", b, "x", "y"), alt(api.TakeCon, "B", b, "y"), alt(api.TakeInt, "", v("x"))}}
		},
		func(a, b api.Expr) api.Expr {
			return api.Expr{Op: api.Case, L: []api.Expr{a}, Alts: []api.Alt{alt(api.TakeCon, "N", b), alt(api.TakeAny, "", v("y"))}}
		},
	}
}

// isKnown is whether the names that are free in the expression are definitions.
func isKnown(p api.Program, e api.Expr) bool {
	return !slices.ContainsFunc(free.Names(e), func(name string) bool {
		_, ok := scope.Def(p, name)
		return !ok
	})
}

// Every expression of a few parts, alone and where its names are bound in each way.
func TestAllSmallExpressions(t *testing.T) {
	p := read(t, lists+"(def k x y x) (def n (+ 1 1)) (def main (k n n))")
	few := []api.Expr{v("x"), v("y"), v("k"), v("n")}
	unary := []func(e api.Expr) api.Expr{
		func(e api.Expr) api.Expr { return fn(e, "x") },
		func(e api.Expr) api.Expr { return fn(e, "y", "x") },
		func(e api.Expr) api.Expr { return prim("float", e) },
	}
	var n tally
	open := 0
	for _, l := range append(exprs.Grow(4, append(few, api.Expr{Op: api.Int}, con("N"), con("P"), con("B"), api.Expr{Op: api.Fail, N: 3}), unary, shapes()), exprs.Grow(5, few, unary, shapes())[5]) {
		for _, e := range l {
			if isKnown(p, e) {
				n.hold(t, p, &e, 3, 60)
			} else {
				open++
				wantSame(t, runExpr(p, e, 3, 60), nothing(0))
			}
			both := api.Expr{Op: api.Let, Names: []string{"x", "y"}, L: []api.Expr{app(con("P"), v("n"), v("y")), e, e}}
			for _, e := range []api.Expr{app(fn(e, "x", "y"), v("n"), con("P")), let("x", app(v("k"), v("n")), let("y", v("x"), e)), both} {
				n.hold(t, p, &e, 3, 60)
			}
		}
	}
	if n.seen < 20000 || n.deep < 500 || n.fault < 3000 || n.nothing < 10000 || open < 5000 {
		t.Error(n, open)
	}
}
