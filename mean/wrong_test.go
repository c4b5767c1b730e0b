package mean_test

import (
	"strconv"
	"strings"
	"testing"

	"gristmill/api"
	"gristmill/obs"
	"gristmill/scope"
	"gristmill/syn"
)

// wantNone holds that nothing is observed of the expressions, and that no step is told.
func wantNone(t *testing.T, p api.Program, l ...api.Expr) {
	t.Helper()
	for _, depth := range []int{-1, 0, 5, 41} {
		for _, fuel := range []int64{-1, 0, 1, 100, 1 << 40} {
			for _, e := range l {
				wantSame(t, runExpr(p, e, depth, fuel), nothing(0))
			}
		}
	}
}

// wantWrong holds that nothing is observed of the program, nor of anything in it.
func wantWrong(t *testing.T, p api.Program) {
	t.Helper()
	wantNone(t, p, api.Expr{Op: api.Int, N: 1}, api.Expr{Op: api.Var, Name: "main"}, api.Expr{Op: api.Var, Name: "q"}, api.Expr{})
	for _, depth := range []int{-1, 0, 5, 41} {
		for _, fuel := range []int64{-1, 0, 1, 100, 1 << 40} {
			wantSame(t, run(p, depth, fuel), nothing(0))
		}
	}
}

func TestWrongPrograms(t *testing.T) {
	one := api.Expr{Op: api.Int, N: 1}
	for _, s := range []string{
		"", "(def f 1)", "(def main x 1)", "(def main y)", "(def main 1) (def main 1)", "(def main 1) (def f x x 1)", "(def main 1) (def f (fn (y y) 1))", "(def main 1) (def f (let ((y 1) (y 1)) 1))", "(def main 1) (def f Q)",
		"(data T) (data T) (def main 1)", "(data Int) (def main 1)", "(data T C C) (def main 1)", "(data T (C a)) (def main 1)", "(data T (C (T T))) (def main 1)", "(data T (C T)) (def main (case 1 (C 2)))", "(data T (C T)) (def main (case 1 ((C x y) 2)))", "(def main (case 1 (C 2)))",
	} {
		p := read(t, s)
		if scope.Check(p) == nil {
			t.Fatal(s)
		}
		wantWrong(t, p)
	}
	// Those that syn.Valid does not take.
	endless := api.Expr{Op: api.App, L: []api.Expr{one, one}}
	endless.L[1] = endless
	for _, e := range []api.Expr{{}, {Op: 11}, {Op: api.Int, Name: "x"}, {Op: api.App, L: []api.Expr{one}}, {Op: api.Prim, Name: "q", L: []api.Expr{one, one}}, {Op: api.Fail, N: -1}, endless} {
		wantWrong(t, api.Program{Defs: []api.Def{{Name: "main", Body: e}}})
		wantWrong(t, api.Program{Defs: []api.Def{{Name: "main", Body: one}, {Name: "f", Body: e}}})
	}
	wantWrong(t, api.Program{Defs: make([]api.Def, api.MaxDefs+1)})
	wantWrong(t, api.Program{Datas: make([]api.Data, 1), Defs: []api.Def{{Name: "main", Body: one}}})
}

func TestExpr(t *testing.T) {
	p := read(t, lists+"(def twice f x (f (f x))) (def k x y x) (def main (+ 1 1)) (def loop loop)")
	for _, x := range []struct {
		e     string
		depth int
		want  string
		steps int64
	}{
		{"main", 5, "2", 4}, {"(+ main main)", 5, "4", 6}, {"(twice (C 1) N)", 5, "(C 1 (C 1 N))", 10}, {"(fn (x) x)", 5, "<fn>", 1}, {"3", 0, "3", 1}, {"N", 0, "_", 1}, {"(P main main)", 1, "(P 2 2)", 7}, {"(fail 3)", 2, "!3", 1}, {"k", 5, "<fn>", 1}, {"(k 1 loop)", 5, "1", 4},
		{"(let ((main 7)) main)", 5, "7", 3}, {"((fn (k twice) k) 1 2)", 5, "1", 4}, {"(case (P 1 2) ((P main k) k))", 5, "2", 5}, {"(case 3 (3 main))", 5, "2", 6}, {"(fn (x) (fn (x) (case x ((C x y) x))))", 5, "<fn>", 1}, {"(let ((x (C 1 x))) x)", 2, "(C 1 (C 1 _))", 5},
	} {
		e := readExpr(t, x.e)
		for fuel := range x.steps * 2 {
			got := runExpr(p, e, x.depth, fuel)
			if fuel < x.steps {
				wantSame(t, got, nothing(fuel))
			} else if obs.Text(got.obs) != x.want || got.steps != x.steps || !got.is {
				t.Errorf("%s with %d: %q, %d, %v; want %q, %d", x.e, fuel, obs.Text(got.obs), got.steps, got.is, x.want, x.steps)
			}
		}
	}
	for _, e := range []string{"loop", "(k loop 1)", "(1 2)", "(+ 1 N)", "(let ((x x)) x)"} {
		wantSame(t, runExpr(p, readExpr(t, e), 5, 1000), nothing(1000))
	}
}

// A name that is none, and what scope.Check would tell of it, wherever it is, whether it would be needed or not.
func TestExprOfWrongNames(t *testing.T) {
	p := read(t, lists+"(def f x x) (def main 1)")
	wrong := []string{"x", "y", "l", "Q", "L", "Int", "(fn (x x) 1)", "(fn (x y x) x)", "(let ((x 1) (x 1)) 1)", "(let ((x 1) (y 1) (x 1)) x)", "(case N ((C x x) 1))", "(case N ((C x) 1))", "(case N (C 1))", "(case N ((N x) 1))", "(case N ((C x y z) 1))", "(case (fail 1) (C 1))", "(fn (q) (case q ((C x) x)))", "(case N (Q 1))", "(case N ((Q x) 1))", "(case N ((P x) 1))", "(case N (_ x))", "(case 1 (1 x))", "(case N ((C a b) x))", "((fn (x) x) x)", "(let ((z x)) z)", "(let ((z 1)) x)", "(P (let ((z 1)) z) z)", "(case N ((C a b) a) (N a))", "(P (fn (z) z) z)"}
	for _, s := range wrong {
		for _, around := range []string{"?", "(f ?)", "(? 1)", "(fn (w) ?)", "(let ((w ?)) 1)", "(let ((w 1)) ?)", "(case ? (_ 1))", "(case 1 (2 3) (_ ?))", "(case 1 (_ 2) (1 ?))", "(case N ((C v w) ?))", "(seq ? 1)", "(seq 1 ?)", "(P 1 ?)", "((fail 1) ?)", "(+ 1 ?)", "(whole ?)"} {
			wantSame(t, runExpr(p, readExpr(t, strings.Replace(around, "?", s, 1)), 5, 100), nothing(0))
		}
	}
}

// One that syn.Valid would not take in any program.
func TestExprOfWrongForms(t *testing.T) {
	p := read(t, lists+"(def f x x) (def main 1)")
	one := api.Expr{Op: api.Int, N: 1}
	app := func(l ...api.Expr) api.Expr { return api.Expr{Op: api.App, L: l} }
	f := api.Expr{Op: api.Var, Name: "f"}
	cases := func(l ...api.Alt) api.Expr { return api.Expr{Op: api.Case, L: []api.Expr{one}, Alts: l} }
	endless := api.Expr{Op: api.Fn, Names: []string{"x"}, L: []api.Expr{one}}
	endless.L[0] = endless
	for _, e := range []api.Expr{
		{}, {Op: 11}, {Op: -1}, {Op: api.Var}, {Op: api.Var, Name: "F"}, {Op: api.Var, Name: "f", N: 1}, {Op: api.Con, Name: "f"}, {Op: api.Con}, {Op: api.Con, Name: "N", L: []api.Expr{one}}, {Op: api.Int, Name: "f"}, {Op: api.Int, L: []api.Expr{one}}, {Op: api.Flo, N: -1}, {Op: api.Fail, N: -1}, {Op: api.Fail, N: 1 << 31},
		app(), app(f), {Op: api.Fn}, {Op: api.Fn, L: []api.Expr{one}}, {Op: api.Fn, Names: []string{"x"}}, {Op: api.Fn, Names: []string{"x"}, L: []api.Expr{one, one}}, {Op: api.Fn, Names: []string{""}, L: []api.Expr{one}}, {Op: api.Fn, Names: []string{"let"}, L: []api.Expr{one}},
		{Op: api.Let, L: []api.Expr{one}}, {Op: api.Let, Names: []string{"x"}, L: []api.Expr{one}}, {Op: api.Let, Names: []string{"x", "y"}, L: []api.Expr{one, one}}, cases(), {Op: api.Case, Alts: []api.Alt{{Take: api.TakeAny, E: one}}}, cases(api.Alt{E: one}), cases(api.Alt{Take: 4, E: one}), cases(api.Alt{Take: api.TakeAny, N: 1, E: one}), cases(api.Alt{Take: api.TakeInt, Names: []string{"x"}, E: one}), cases(api.Alt{Take: api.TakeCon, E: one}), cases(api.Alt{Take: api.TakeAny}),
		{Op: api.Prim, Name: "+", L: []api.Expr{one}}, {Op: api.Prim, Name: "float", L: []api.Expr{one, one}}, {Op: api.Prim, Name: "f", L: []api.Expr{one, one}}, {Op: api.Prim}, app(f, api.Expr{}), endless,
	} {
		wantNone(t, p, e, app(f, e), app(e, one))
		if got := run(p, 5, 10); !got.is || got.steps != 1 {
			t.Error(got)
		}
	}
	deep := one
	for range 198 {
		deep = app(f, deep)
	}
	if got := runExpr(p, deep, 5, api.MaxFuel); got.obs.N != 1 || !got.is {
		t.Error(got)
	}
	wantNone(t, p, app(f, app(f, deep)))
}

// As large as one may be alone, whatever the program has.
func TestExprBesideALargeProgram(t *testing.T) {
	defs := "(def g (+ 1 2))"
	for i := range api.MaxDefs - 2 {
		defs += "(def f" + strconv.Itoa(i) + " (seq 1 2))"
	}
	p := read(t, defs+"(def main (seq (fn (x) (x"+strings.Repeat(" (x"+strings.Repeat(" 1", 60)+")", 60)+")) 1))")
	if len(p.Defs) != api.MaxDefs || syn.Size(p) < 4000 {
		t.Fatal(len(p.Defs), syn.Size(p))
	}
	row := func(n int, first, e api.Expr) api.Expr {
		l := []api.Expr{first}
		for range n {
			l = append(l, e)
		}
		return api.Expr{Op: api.App, L: l}
	}
	g, one := api.Expr{Op: api.Var, Name: "g"}, api.Expr{Op: api.Int, N: 1}
	fault := api.Expr{Op: api.Fail, N: 4}
	// 1 + 1 + 60 * (1 + 1 + 60 * 5) = 18122 expressions, with a definition's name in them.
	e := row(60, fault, row(60, one, row(3, one, g)))
	if n := syn.Size(api.Program{Defs: []api.Def{{Body: e}}}); n != 18122 {
		t.Fatal(n)
	}
	wantSame(t, runExpr(p, e, 5, 100), answer{api.Obs{Kind: api.SeenFault, N: 4}, 2, true})
	wantNone(t, p, row(60, fault, row(60, one, row(4, one, g))))
	sum := api.Expr{Op: api.Prim, Name: "+", L: []api.Expr{g, {Op: api.Var, Name: "f0"}}}
	wantSame(t, runExpr(p, sum, 5, 100), answer{api.Obs{Kind: api.SeenInt, N: 5}, 9, true})
}

// A fault is all, wherever it is met first.
func TestAFaultIsAll(t *testing.T) {
	wantMeaning(t,
		meaning{lists + "(def main (P (fail 1) 2))", 0, "_", 2}, meaning{lists + "(def main (P (fail 1) 2))", 1, "!1", 3}, meaning{lists + "(def main (P 1 (fail 2)))", 1, "!2", 4}, meaning{lists + "(def main (P (fail 1) (fail 2)))", 1, "!1", 3},
		meaning{lists + "(def main (C 1 (C (fail 5) N)))", 1, "(C 1 _)", 5}, meaning{lists + "(def main (C 1 (C (fail 5) N)))", 2, "!5", 6}, meaning{lists + "(def main (C 1 (C 2 (fail 5))))", 2, "!5", 7},
		meaning{lists + "(def loop loop) (def main (P (fail 1) loop))", 1, "!1", 3}, meaning{lists + "(def loop loop) (def main (P (fn (x) loop) (C 1 loop)))", 1, "(P <fn> _)", 5}, meaning{lists + "(def main (P main (fail 1)))", 3, "!1", 4},
		meaning{"(def main (fail 0))", 5, "!0", 1}, meaning{"(def main (fail 2147483647))", 0, "!2147483647", 1}, meaning{"(def main (+ 1 (case (fail 3) (_ 2))))", 0, "!3", 4}, meaning{"(def f x (x 1)) (def main (f (fail 9)))", 3, "!9", 5}, meaning{lists + "(def main (C 1 (div 1 0)))", 1, "!-2", 6}, meaning{lists + "(def main (C (whole inf) (fail 1)))", 1, "!-3", 4}, meaning{lists + "(def main (C (case N (0 1)) 1))", 7, "!-1", 4})
	wantNothing(t, 1, lists+"(def loop loop) (def main (P loop (fail 1)))", lists+"(def main (P (1 1) (fail 1)))")
}

func TestWhatNeverEnds(t *testing.T) {
	wantNothing(t, 40,
		"(def main main)", "(def main (+ main 1))", "(def main (+ 1 main))", "(def f f) (def main f)", "(def a b) (def b a) (def main a)", "(def main (case main (_ 1)))", "(def main (main 1))", "(def f x (x x)) (def main (f f))", "(def loop x (loop x)) (def main (loop 1))", "(def f n (+ 1 (f n))) (def main (f 1))", "(def f n (f (+ n 1))) (def main (f 1))",
		lists+"(def loop loop) (def main (P 1 (P 2 loop)))", "(data T (T T T)) (def main (T main main))", lists+"(def f x (let ((y (P y y))) (seq y (f y)))) (def main (f 1))")
}
