package exprs_test

import (
	"slices"
	"testing"

	"gristmill/api"
	"gristmill/exprs"
)

func TestGrow(t *testing.T) {
	leaf := func(name string) api.Expr { return api.Expr{Op: api.Var, Name: name} }
	unary := []func(api.Expr) api.Expr{func(e api.Expr) api.Expr { return leaf("-" + e.Name) }}
	binary := []func(a, b api.Expr) api.Expr{
		func(a, b api.Expr) api.Expr { return leaf("(" + a.Name + b.Name + ")") },
		func(a, b api.Expr) api.Expr { return leaf("[" + a.Name + b.Name + "]") },
	}
	want := [][]string{nil, {"x", "y"}, {"-x", "-y"}, {"--x", "--y", "(xx)", "[xx]", "(xy)", "[xy]", "(yx)", "[yx]", "(yy)", "[yy]"}}
	of4 := []string{"---x", "---y", "-(xx)", "-[xx]", "-(xy)", "-[xy]", "-(yx)", "-[yx]", "-(yy)", "-[yy]"}
	for _, pair := range []string{"x-x", "x-y", "y-x", "y-y", "-xx", "-xy", "-yx", "-yy"} {
		of4 = append(of4, "("+pair+")", "["+pair+"]")
	}
	want = append(want, of4)
	for n := 1; n <= 4; n++ {
		got := exprs.Grow(n, []api.Expr{leaf("x"), leaf("y")}, unary, binary)
		if len(got) != n+1 {
			t.Fatal(n, got)
		}
		for size, l := range got {
			var names []string
			for _, e := range l {
				names = append(names, e.Name)
			}
			if !slices.Equal(names, want[size]) {
				t.Errorf("%d: %q; want %q", size, names, want[size])
			}
		}
	}
}

func TestEndless(t *testing.T) {
	leaf := api.Expr{Op: api.Int, N: 7}
	part := exprs.Endless(func(e api.Expr) api.Expr {
		return api.Expr{Op: api.App, L: []api.Expr{leaf, e}}
	})
	alt := exprs.Endless(func(e api.Expr) api.Expr {
		return api.Expr{Op: api.Case, L: []api.Expr{leaf}, Alts: []api.Alt{{E: leaf}, {E: e}}}
	})
	for range 1000 {
		if part.Op != api.App || part.L[0].N != 7 || alt.Op != api.Case || alt.L[0].N != 7 || alt.Alts[0].E.N != 7 {
			t.Fatal("it ends")
		}
		part, alt = part.L[1], alt.Alts[1].E
	}
}
