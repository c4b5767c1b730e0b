package infer_test

import (
	"reflect"
	"strconv"
	"strings"
	"testing"

	"gristmill/api"
	"gristmill/infer"
	"gristmill/syn"
	"gristmill/types"
)

func wantExprOf(t *testing.T, p api.Program, e api.Expr, want string) {
	t.Helper()
	got, err := infer.Expr(p, e)
	switch {
	case want == "" && (err != api.ErrType || !reflect.DeepEqual(got, api.Type{})):
		t.Errorf("%.300q: %.300q, %v; want %v", exprText(e), types.Text(got), err, api.ErrType)
	case want != "" && (err != nil || types.Text(got) != want):
		t.Errorf("%.300q: %.300q, %v; want %.300q", exprText(e), types.Text(got), err, want)
	}
}

func TestExpr(t *testing.T) {
	p := read(t, "(data L a (C a (L a)) N) (def k x y x) (def f x (f x)) (def g x (h x)) (def h x (+ (g x) 1)) (def main (k 1))")
	for _, x := range []struct{ e, want string }{
		{"1", "Int"}, {"1p0", "Float"}, {"k", "(-> a (-> b a))"}, {"main", "(-> a Int)"}, {"(main main)", "Int"}, {"f", "(-> a b)"}, {"(g 1p0)", "Int"}, {"(h N)", "Int"}, {"(k 1)", "(-> a Int)"}, {"(fn (k) (k main))", "(-> (-> (-> a Int) b) b)"}, {"(C 1p0)", "(-> (L Float) (L Float))"}, {"(fail 3)", "a"},
		{"(fn (main) (main 1 1))", "(-> (-> Int (-> Int a)) a)"}, {"(let ((k 1)) (+ k 1))", "Int"}, {"(C k (C k N))", "(L (-> a (-> b a)))"}, {"(let ((x k)) (C (x 1 1p0) (C (x 2 N) N)))", "(L Int)"},
	} {
		wantExprOf(t, p, readExpr(t, x.e), x.want)
	}
	for _, e := range []string{"(1 2)", "(main 1 2)", "(k 1 2 3)", "(+ main 1)", "(C 1 (C 1p0 N))", "(fn (x) (x x))", "(seq (fn (x) (x x)) 1)", "(f< 1 2)", "(case main (N 1))"} {
		wantExprOf(t, p, readExpr(t, e), "")
	}
	// Of the example.
	wantExprOf(t, read(t, "(def main (fn (x) x))"), v("main"), "(-> a a)")
}

// A name that is none, and what scope would tell of it, wherever it is.
func TestExprOfWrongNames(t *testing.T) {
	p := read(t, "(data L a (C a (L a)) N) (data P a b (P a b)) (def f x x) (def main 1)")
	wrong := []string{"x", "y", "l", "Q", "L", "Int", "(fn (x x) 1)", "(fn (x y x) x)", "(let ((x 1) (x 1)) 1)", "(let ((x 1) (y 1) (x 1)) x)", "(case N ((C x x) 1))", "(case N ((C x) 1))", "(case N (C 1))", "(case N ((N x) 1))", "(case N ((C x y z) 1))", "(case (fail 1) (C 1))", "(case (fail 1) ((C x) 1))", "(case (fail 1) ((N x) 1))", "(case (fail 1) ((C x y z) 1))", "(fn (q) (case q ((C x) x)))", "(case (fn (q r) q) (C 1))", "(case N (Q 1))", "(case N ((Q x) 1))", "(case N ((P x) 1))", "(case N ((P x x) 1))", "(case N (_ x))", "(case 1 (1 x))", "(case N ((C a b) x))", "((fn (x) x) x)", "(let ((z x)) z)", "(let ((z 1)) x)", "(P (let ((z 1)) z) z)", "(case N ((C a b) a) (N a))"}
	for _, e := range wrong {
		for _, s := range []string{"?", "(f ?)", "(? 1)", "(fn (w) ?)", "(let ((w ?)) 1)", "(let ((w 1)) ?)", "(case ? (_ 1))", "(case 1 (_ ?))", "(case N ((C v w) ?))", "(seq ? 1)", "(seq 1 ?)", "(P 1 ?)"} {
			wantExprOf(t, p, readExpr(t, strings.Replace(s, "?", e, 1)), "")
		}
	}
	for _, e := range []string{"(fn (x y) (fn (y x) x))", "(let ((x 1)) (let ((x x)) 1))", "(case N ((C x y) (case y ((C x y) 1))))", "(fn (f) (fn (f) 1))", "(fn (x) (case N ((C x y) 1)))", "(fn (main f) 1)"} {
		if x, err := infer.Expr(p, readExpr(t, e)); err != nil || x.Name == "" {
			t.Error(e, x, err)
		}
	}
}

// One that syn.Valid would not take in any program.
func TestExprOfWrongForms(t *testing.T) {
	p := read(t, "(data L a (C a (L a)) N) (def f x x) (def main 1)")
	one := api.Expr{Op: api.Int, N: 1}
	for _, e := range []api.Expr{
		{}, {Op: 11}, {Op: -1}, {Op: api.Var}, {Op: api.Var, Name: "F"}, {Op: api.Var, Name: "f", N: 1}, {Op: api.Con, Name: "f"}, {Op: api.Con}, {Op: api.Int, Name: "f"}, {Op: api.Int, L: []api.Expr{one}}, {Op: api.Flo, N: -1}, {Op: api.Fail, N: -1}, {Op: api.Fail, N: 1 << 31},
		{Op: api.App}, {Op: api.App, L: []api.Expr{v("f")}}, {Op: api.Fn}, {Op: api.Fn, L: []api.Expr{one}}, {Op: api.Fn, Names: []string{"x"}}, {Op: api.Fn, Names: []string{"x"}, L: []api.Expr{one, one}}, {Op: api.Fn, Names: []string{""}, L: []api.Expr{one}}, {Op: api.Fn, Names: []string{"let"}, L: []api.Expr{one}},
		{Op: api.Let, L: []api.Expr{one}}, {Op: api.Let, Names: []string{"x"}, L: []api.Expr{one}}, {Op: api.Let, Names: []string{"x", "y"}, L: []api.Expr{one, one}}, {Op: api.Case, L: []api.Expr{one}}, {Op: api.Case, Alts: []api.Alt{{Take: api.TakeAny, E: one}}}, cases(one, api.Alt{E: one}), cases(one, api.Alt{Take: 4, E: one}), cases(one, api.Alt{Take: api.TakeAny, N: 1, E: one}), cases(one, api.Alt{Take: api.TakeInt, Names: []string{"x"}, E: one}), cases(one, api.Alt{Take: api.TakeCon, E: one}), cases(one, api.Alt{Take: api.TakeAny}),
		{Op: api.Prim, Name: "+", L: []api.Expr{one}}, {Op: api.Prim, Name: "float", L: []api.Expr{one, one}}, {Op: api.Prim, Name: "f", L: []api.Expr{one, one}}, {Op: api.Prim}, app(v("f"), api.Expr{}), fn(api.Expr{}, "x"),
	} {
		wantExprOf(t, p, e, "")
		wantExprOf(t, p, app(v("f"), e), "")
	}
	many := api.Expr{Op: api.Fn, Names: strings.Fields(params(61)), L: []api.Expr{one}}
	wantExprOf(t, p, many, "")
	many.Names = many.Names[:60]
	if x, err := infer.Expr(p, many); err != nil || len(argsOf(x)) != 121 {
		t.Error(x, err)
	}
	deep := one
	for range 198 {
		deep = app(v("f"), deep)
	}
	wantExprOf(t, p, app(v("f"), deep), "Int")
	wantExprOf(t, p, app(v("f"), app(v("f"), deep)), "")
}

// As large as one may be alone, whatever the program has.
func TestExprBesideALargeProgram(t *testing.T) {
	defs := "(def g (seq 1 2))"
	for i := range api.MaxDefs - 2 {
		defs += "(def f" + strconv.Itoa(i) + " (seq 1 2))"
	}
	p := read(t, defs+"(def main (seq ((fail 1)"+strings.Repeat(" ((fail 1)"+strings.Repeat(" 1", 60)+")", 60)+") 1))")
	if len(p.Defs) != api.MaxDefs || syn.Size(p) < 4000 {
		t.Fatal(len(p.Defs), syn.Size(p))
	}
	row := func(n int, e api.Expr) api.Expr {
		l := []api.Expr{{Op: api.Fail}}
		for range n {
			l = append(l, e)
		}
		return app(l...)
	}
	one := api.Expr{Op: api.Int, N: 1}
	wantExprOf(t, p, one, "Int")
	wantExprOf(t, p, app(v("f0"), one), "")
	// 1 + 1 + 60 * (1 + 1 + 60 * 5) = 18122 expressions, with a definition's name in them.
	e := row(60, row(60, row(3, v("g"))))
	if n := syn.Size(api.Program{Defs: []api.Def{{Body: e}}}); n != 18122 {
		t.Fatal(n)
	}
	wantExprOf(t, p, e, "a")
	wantExprOf(t, p, row(60, row(60, row(4, v("g")))), "")
}

func TestExprAtMaxType(t *testing.T) {
	p := read(t, ofSize+"(def main 1)")
	for n, want := range map[int]string{1: "Int", 2: "(L Int)", api.MaxType: "", api.MaxType - 1: ""} {
		got, err := infer.Expr(p, readExpr(t, sized(n)))
		if err != nil || len(argsOf(got)) != n || want != "" && types.Text(got) != want {
			t.Errorf("%d: %.300q, %v", n, types.Text(got), err)
		}
	}
	over := sized(api.MaxType + 1)
	for _, e := range []string{over, "(fn (x) " + sized(api.MaxType-1) + ")", doubled(90, "1"), "(let ((y " + over + ")) 1)", "(seq (let ((y " + over + ")) 1) 1)", "(let ((f (fn (x) " + sized(api.MaxType-1) + "))) 1)"} {
		wantExprOf(t, p, readExpr(t, e), "")
	}
	for _, e := range []string{"(seq " + over + " 1)", "(seq " + doubled(90, "1") + " 1)", "(let ((y " + sized(api.MaxType) + ")) 1)", "(case " + over + " (_ 1))"} {
		wantExprOf(t, p, readExpr(t, e), "Int")
	}
}

// What Types tells of the program comes ahead of what is wrong with the expression.
func TestExprOfAProgramThatIsNotRight(t *testing.T) {
	for _, s := range []string{"(def main 1) (def f (1 1))", "(def main 1) (def f x (x x))", ofSize + "(def main " + sized(api.MaxType+1) + ")", "(def main (f 1p0)) (def f x (+ x 1))", "(def main x)", "(def f 1)", "(def main 1) (def main 1)"} {
		p := read(t, s)
		_, want := infer.Types(p)
		for _, e := range []api.Expr{{Op: api.Int}, {}, v("main"), v("none"), app(v("main"), v("main"))} {
			got, err := infer.Expr(p, e)
			if want == nil || !reflect.DeepEqual(err, want) || !reflect.DeepEqual(got, api.Type{}) {
				t.Errorf("%.300q: %v, %v; want %v", s, got, err, want)
			}
		}
	}
}
