package gen_test

import (
	"reflect"
	"strings"
	"testing"

	"gristmill/api"
	"gristmill/exprs"
	"gristmill/gen"
	"gristmill/grin"
	"gristmill/scope"
)

// wantError holds that Gen tells the error, and nothing beside it.
func wantError(t *testing.T, p api.Program, want error) {
	t.Helper()
	if g, err := gen.Gen(p); !reflect.DeepEqual(err, want) || !reflect.DeepEqual(g, grin.Prog{}) {
		t.Errorf("%v, %v; want %v", g, err, want)
	}
}

// Those of scope.Check come first, just as they are, whether there is a Fn or not.
func TestErrorsOfScope(t *testing.T) {
	for _, s := range []string{
		"", "(def f 1)", "(def main x 1)", "(def main y)", "(def main 1) (def main 1)", "(def main 1) (def f x x 1)", "(def main 1) (def f (let ((y 1) (y 1)) 1))", "(def main 1) (def f Q)",
		"(data T) (data T) (def main 1)", "(data Int) (def main 1)", "(data T C C) (def main 1)", "(data T (C a)) (def main 1)", "(data T (C (T T))) (def main 1)", "(data T (C T)) (def main (case 1 (C 2)))", "(data T (C T)) (def main (case 1 ((C x y) 2)))", "(data T (C T T)) (def main (case 1 ((C x x) 2)))", "(def main (case 1 (C 2)))",
	} {
		for _, fn := range []string{"", " (def g (fn (x) x))"} {
			p := read(t, s+fn)
			err := scope.Check(p)
			if err == nil {
				t.Fatal(s)
			}
			wantError(t, p, err)
		}
	}
	// Those that syn.Valid does not take, some of them without an end.
	one := api.Expr{Op: api.Int, N: 1}
	endless := exprs.Endless(func(e api.Expr) api.Expr { return api.Expr{Op: api.App, L: []api.Expr{one, e}} })
	for _, e := range []api.Expr{{}, {Op: 11}, {Op: api.Int, Name: "x"}, {Op: api.App, L: []api.Expr{one}}, {Op: api.Prim, Name: "q", L: []api.Expr{one, one}}, {Op: api.Fail, N: -1}, {Op: api.Case, L: []api.Expr{one}}, endless} {
		for _, p := range []api.Program{{Defs: []api.Def{{Name: "main", Body: e}}}, {Defs: []api.Def{{Name: "main", Body: one}, {Name: "f", Body: e}}}} {
			wantError(t, p, scope.Check(p))
		}
	}
	for _, p := range []api.Program{{Defs: make([]api.Def, api.MaxDefs+1)}, {Datas: make([]api.Data, 1), Defs: []api.Def{{Name: "main", Body: one}}}} {
		wantError(t, p, scope.Check(p))
	}
}

// Wherever there is a Fn, needed or not.
func TestErrForm(t *testing.T) {
	for _, around := range []string{"?", "(+ 1 ?)", "(f ?)", "(? 1)", "(let ((x ?)) 1)", "(let ((x 1)) ?)", "(case ? (_ 1))", "(case 1 (_ ?))", "(case 1 (1 2) (2 ?))", "(case N ((C x y) ?))", "(seq 1 ?)"} {
		for _, s := range []string{"(def f x x) (def main ?)", "(def f ?) (def main 1)", "(def f x ?) (def main (f 1))"} {
			s = lists + strings.Replace(s, "?", around, 1)
			wantError(t, read(t, strings.Replace(s, "?", "(fn (z) z)", 1)), api.ErrForm)
			if _, err := gen.Gen(read(t, strings.Replace(s, "?", "1", 1))); err != nil {
				t.Error(s, err)
			}
		}
	}
	// Ahead of what would be too many.
	p := chains(t, 34, 1)
	wantError(t, p, api.ErrMany)
	p.Defs = append(p.Defs, read(t, "(def h (fn (x) x))").Defs...)
	wantError(t, p, api.ErrForm)
	p.Defs = append(p.Defs, read(t, "(def h y)").Defs...)
	wantError(t, p, &api.At{Pos: len(p.Defs) - 1, Err: api.ErrTwice})
}
