package free_test

import (
	"testing"

	"gristmill/api"
	"gristmill/exprs"
)

func v(name string) api.Expr { return api.Expr{Op: api.Var, Name: name} }

func app(l ...api.Expr) api.Expr { return api.Expr{Op: api.App, L: l} }

func fn(e api.Expr, names ...string) api.Expr {
	return api.Expr{Op: api.Fn, Names: names, L: []api.Expr{e}}
}

// let is of the names, each of which is what stands at its place in l, all in the last of l.
func let(names []string, l ...api.Expr) api.Expr {
	return api.Expr{Op: api.Let, Names: names, L: l}
}

func cases(e api.Expr, alts ...api.Alt) api.Expr {
	return api.Expr{Op: api.Case, L: []api.Expr{e}, Alts: alts}
}

func ofCon(e api.Expr, names ...string) api.Alt {
	return api.Alt{Take: api.TakeCon, Name: "C", Names: names, E: e}
}

func ofInt(e api.Expr) api.Alt { return api.Alt{Take: api.TakeInt, N: 1, E: e} }

func ofAny(e api.Expr) api.Alt { return api.Alt{Take: api.TakeAny, E: e} }

// unary is ways to make an expression of one.
func unary() []func(api.Expr) api.Expr {
	return []func(api.Expr) api.Expr{
		func(e api.Expr) api.Expr { return fn(e, "x") },
		func(e api.Expr) api.Expr { return fn(e, "y", "x") },
		func(e api.Expr) api.Expr { return let([]string{"x"}, e, v("y")) },
		func(e api.Expr) api.Expr {
			return api.Expr{Op: api.Prim, Name: "+", L: []api.Expr{e, v("x")}}
		},
	}
}

// binary is ways to make an expression of two.
func binary() []func(a, b api.Expr) api.Expr {
	return []func(a, b api.Expr) api.Expr{
		func(a, b api.Expr) api.Expr { return app(a, b) },
		func(a, b api.Expr) api.Expr { return let([]string{"y"}, a, b) },
		func(a, b api.Expr) api.Expr { return let([]string{"x", "w"}, v("w"), a, b) },
		func(a, b api.Expr) api.Expr { return cases(a, ofCon(b, "x"), ofAny(v("x"))) },
		func(a, b api.Expr) api.Expr { return cases(v("y"), ofInt(a), ofCon(b), ofCon(a, "w", "y")) },
	}
}

func TestAllSmallExpressions(t *testing.T) {
	small := exprs.Grow(5, []api.Expr{v("x"), v("y"), v("w"), {Op: api.Con, Name: "C"}}, unary(), binary())
	by := fn(app(v("x"), v("y"), v("z")), "y")
	n := 0
	for _, l := range small[:5] {
		for _, e := range l {
			hold(t, e, by, "x", "y", "w", "C", "+", "")
			n++
		}
	}
	for _, e := range small[5] {
		hold(t, e, by, "x")
		n++
	}
	if n < 10000 {
		t.Error(n)
	}
}
