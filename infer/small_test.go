package infer_test

import (
	"testing"

	"gristmill/api"
	"gristmill/exprs"
)

func v(name string) api.Expr { return api.Expr{Op: api.Var, Name: name} }

func fn(e api.Expr, names ...string) api.Expr {
	return api.Expr{Op: api.Fn, Names: names, L: []api.Expr{e}}
}

func app(l ...api.Expr) api.Expr { return api.Expr{Op: api.App, L: l} }

func let(name string, a, b api.Expr) api.Expr {
	return api.Expr{Op: api.Let, Names: []string{name}, L: []api.Expr{a, b}}
}

func cases(e api.Expr, alts ...api.Alt) api.Expr {
	return api.Expr{Op: api.Case, L: []api.Expr{e}, Alts: alts}
}

// shapes is ways to make an expression of two.
func shapes() []func(a, b api.Expr) api.Expr {
	return []func(a, b api.Expr) api.Expr{
		func(a, b api.Expr) api.Expr { return app(a, b) },
		func(a, b api.Expr) api.Expr { return let("x", a, b) },
		func(a, b api.Expr) api.Expr { return let("y", a, b) },
		func(a, b api.Expr) api.Expr {
			return cases(a, api.Alt{Take: api.TakeCon, Name: "C", Names: []string{"x", "y"}, E: b})
		},
		func(a, b api.Expr) api.Expr {
			return cases(a, api.Alt{Take: api.TakeInt, N: 1, E: a}, api.Alt{Take: api.TakeAny, E: b})
		},
	}
}

func TestAllSmallExpressions(t *testing.T) {
	var n tally
	p := read(t, lists+"(def k x y x) (def main 1)")
	known, _ := newModel(p).defs()
	unary := []func(api.Expr) api.Expr{
		func(e api.Expr) api.Expr { return fn(e, "x") },
		func(e api.Expr) api.Expr { return fn(e, "y") },
		func(e api.Expr) api.Expr {
			return api.Expr{Op: api.Prim, Name: "+", L: []api.Expr{e, v("x")}}
		},
	}
	for _, l := range exprs.Grow(5, []api.Expr{v("x"), v("y"), v("k"), {Op: api.Int, N: 1}, {Op: api.Con, Name: "C"}}, unary, shapes()) {
		for _, e := range l {
			n.holdExpr(t, p, known, e)
			n.holdExpr(t, p, known, fn(e, "x", "y"))
			n.holdExpr(t, p, known, let("x", fn(v("y"), "y"), e))
			n.holdExpr(t, p, known, fn(let("x", app(v("k"), v("y")), e), "y"))
		}
	}
	if n.right < 1000 || n.general < 10000 || n.wrong < 20000 || n.large > 0 {
		t.Error(n)
	}
}
