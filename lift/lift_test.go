package lift_test

import (
	"reflect"
	"slices"
	"strings"
	"testing"

	"gristmill/api"
	"gristmill/lift"
	"gristmill/mean"
	"gristmill/obs"
	"gristmill/programs"
	"gristmill/scope"
	"gristmill/syn"
)

func read(t *testing.T, s string) api.Program {
	t.Helper()
	p, err := syn.Parse(s)
	if err != nil {
		t.Fatalf("%.300q: %v", s, err)
	}
	return p
}

// expressions calls see with each expression in e, it ahead of its parts.
func expressions(e api.Expr, see func(api.Expr)) {
	see(e)
	for _, part := range e.L {
		expressions(part, see)
	}
	for _, a := range e.Alts {
		expressions(a.E, see)
	}
}

// functions is how many Fns the program has.
func functions(p api.Program) (n int) {
	for _, d := range p.Defs {
		expressions(d.Body, func(e api.Expr) {
			if e.Op == api.Fn {
				n++
			}
		})
	}
	return n
}

// wantLifted is what Lift makes of the program, held against all that is promised of it but what it means.
func wantLifted(t *testing.T, p api.Program) api.Program {
	t.Helper()
	q, err := lift.Lift(p)
	if err != nil {
		t.Fatalf("%.3000s: %v", syn.Text(p), err)
	}
	n := functions(p)
	if !lift.Flat(q) || functions(q) > 0 || lift.Flat(p) != (n == 0) {
		t.Fatalf("%.3000s%.3000s: %v, %v", syn.Text(p), syn.Text(q), lift.Flat(p), lift.Flat(q))
	}
	if err := scope.Check(q); err != nil {
		t.Fatalf("%.3000s%.3000s: %v", syn.Text(p), syn.Text(q), err)
	}
	if !syn.Same(heads(p, len(p.Defs)), heads(q, len(p.Defs))) || len(q.Defs) != len(p.Defs)+n {
		t.Fatalf("%.3000s%.3000s", syn.Text(p), syn.Text(q))
	}
	return q
}

// heads is the program's data, and the first n of its definitions without what they are.
func heads(p api.Program, n int) api.Program {
	h := api.Program{Datas: p.Datas}
	for _, d := range p.Defs[:min(n, len(p.Defs))] {
		h.Defs = append(h.Defs, api.Def{Name: d.Name, Params: d.Params})
	}
	return h
}

// tally counts what was observed: with functions lifted, trees among it, faults, nothing.
type tally struct{ lifted, deep, fault, nothing int }

// hold holds what the lifted program means against what the program means, at depths up to most.
func (n *tally) hold(t *testing.T, p api.Program, most int, fuel int64) {
	t.Helper()
	q := wantLifted(t, p)
	for depth := range most + 1 {
		want, steps, is := mean.Run(p, depth, fuel)
		// It is never in fewer steps: what is nothing stays so.
		more := fuel
		if is {
			more = 10*steps + 100
		}
		got, taken, has := mean.Run(q, depth, more)
		if has != is || !obs.Same(got, want) || is && (taken < steps || taken > more) {
			t.Fatalf("%s%s at %d: %q, %d, %v; want %q, %d, %v", syn.Text(p), syn.Text(q), depth, obs.Text(got), taken, has, obs.Text(want), steps, is)
		}
		switch {
		case !is:
			n.nothing++
		case want.Kind == api.SeenFault:
			n.fault++
		case len(q.Defs) > len(p.Defs):
			n.lifted++
			if len(want.L) > 0 {
				n.deep++
			}
		}
	}
}

// What the names of the definitions are that are made, and what they take, is not promised, but it stays as it is.
func TestTexts(t *testing.T) {
	for _, x := range []struct{ s, want string }{
		{"(def main (+ 1 2))", "(def main (+ 1 2))\n"},
		{"(def main ((fn (x) x) 1))", "(def main (f 1))\n(def f x x)\n"},
		{"(def main (fn (x) (fn (y) (+ x y))))", "(def main f)\n(def f x (f_1 x))\n(def f_1 v y (+ v y))\n"},
		{"(def f x y (fn (z) (z y x y))) (def main (f 1 2 f))", "(def f x y (f_1 y x))\n(def main (f 1 2 f))\n(def f_1 v v_1 z (z v v_1 v))\n"},
		{"(def main (let ((f (fn (n) (case n (0 1) (_ (f (- n 1))))))) (f 3)))", "(def main (let ((f (f_1 f))) (f 3)))\n(def f_1 v n (case n (0 1) (_ (v (- n 1)))))\n"},
		{"(def v 1) (def v_1 2) (def main (case (fn (x) v) (_ (let ((y 3)) (fn (a b) (v y v_1))))))", "(def v 1)\n(def v_1 2)\n(def main (case f (_ (let ((y 3)) (f_1 y)))))\n(def f x v)\n(def f_1 v_2 a b (v v_2 v_1))\n"},
		{"(data P a b (P a b) F) (def main (case (P F (fn (x) F)) ((P x y) (fn (z) (P x (y z)))) (1 (fail 3)) (_ (f+ 1p0 inf))))", "(data P a b (P a b) F)\n(def main (case (P F f) ((P x y) (f_1 x y)) (1 (fail 3)) (_ (f+ 1p0 inf))))\n(def f x F)\n(def f_1 v v_1 z (P v (v_1 z)))\n"},
	} {
		p := read(t, x.s)
		if got := syn.Text(wantLifted(t, p)); got != x.want {
			t.Errorf("%s:\n%s; want\n%s", x.s, got, x.want)
		}
	}
}

const lists = programs.Lists

// What a Fn takes of what is bound around it, and what not, with names that stand for several things.
func TestNames(t *testing.T) {
	var n tally
	for _, x := range []struct{ s, want string }{
		// Bound by each of what binds: parameters, a Fn, a Let, an Alt.
		{"(def f x y (fn (z) (- x (* y z)))) (def main (f 10 3 2))", "4"}, {"(def main ((fn (x) ((fn (y) (- x y)) 3)) 10))", "7"}, {"(def main (let ((x 10) (y 3)) ((fn (z) (- x (* y z))) 2)))", "4"}, {lists + "(def main (case (P 10 3) ((P x y) ((fn (z) (- x (* y z))) 2))))", "4"},
		{"(def main ((fn (a b c) ((fn (d e) ((fn (g) (- a (- b (- c (- d (- e g)))))) 1)) 2 3)) 4 5 6))", "5"},
		{"(def main ((((fn (a) (fn (b) (fn (c) (fn (d) (- (- a b) (- c d)))))) 1) 2) 3 4))", "0"},
		{"(def main ((fn (x) ((fn (y) ((fn (x) ((fn (z) (- x (- y z))) 1)) 20)) x)) 3))", "18"},
		// In what a Let's names are, and what an Alt has.
		{"(def main (let ((x 1) (f (fn (y) (g (+ x y)))) (g (fn (z) (case z (9 z) (_ (f z)))))) (f 0)))", "9"},
		{"(def main (let ((x (fn (y) (case y (0 5) (_ (x (- y 1))))))) (x 3)))", "5"},
		{lists + "(def main (case (C 1 (C 2 N)) ((C x r) (case r ((C y r) ((fn (z) (P (- x y) (C z r))) 7))))))", "(P -1 (C 7 N))"},
		{lists + "(def main (let ((x 1)) (P x ((let ((x 2)) (fn (y) (P x y))) 3))))", "(P 1 (P 2 3))"},
		// Bound again within: neither taken nor renamed.
		{"(def main (let ((x 1)) ((fn (x) (+ x x)) 5)))", "10"}, {"(def main (let ((x 1)) ((fn (y) (+ x ((fn (x) (* x y)) 3))) 5)))", "16"}, {"(def main (let ((x 1)) ((fn (y) (+ (let ((x (+ y 1))) x) x)) 5)))", "7"},
		{lists + "(def main (let ((x 1)) ((fn (y) (case y ((P x z) (- x z)) (_ x))) (P 7 2))))", "5"}, {lists + "(def main (let ((x 1)) ((fn (y) (case y ((P z w) (- x z)) ((B x) x))) (P 7 2))))", "-6"}, {lists + "(def main (let ((x 1)) ((fn (y) (case y ((P z w) (- x z)) ((B x) x))) (B 9))))", "9"},
		{"(def main (let ((x 1)) ((fn (y) (- ((fn (x) x) 9) x)) 2)))", "8"}, {"(def main (let ((x 1)) ((fn (y) (- x ((fn (x) x) 9))) 2)))", "-8"}, {"(def main (let ((x 1)) ((fn (y) (- (let ((x 4)) ((fn (z) (* x z)) 2)) x)) 2)))", "7"},
		// Names of definitions: as they are, but where something else is bound there.
		{"(def k x 7) (def main ((fn (y) (k y)) 1))", "7"}, {"(def x 3) (def main ((fn (y) (+ x y)) 4))", "7"}, {"(def x 3) (def main (let ((x 10)) ((fn (y) (+ x y)) 4)))", "14"}, {"(def x 3) (def main (+ ((fn (y) (+ x y)) 4) (let ((x 10)) ((fn (y) (+ x y)) 4))))", "21"},
		{"(def x 3) (def main ((fn (x) ((fn (y) (+ x y)) 4)) x))", "7"}, {"(def g g (fn (x) (g x))) (def h x (* x 2)) (def main (g h 4))", "8"}, {"(def a 5) (def main (case 1 (1 ((fn (b) (+ a b)) 2))))", "7"},
		{"(def main (let ((main 3)) ((fn (x) (+ x main)) 4)))", "7"}, {lists + "(def main (C 1 ((fn (x) (C x main)) 2)))", "(C 1 (C 2 (C 1 (C 2 (C 1 _)))))"},
		// Names that new ones might be.
		{"(def f v (fn (f_1) (v f_1))) (def v 2) (def main (f (fn (v_1) (+ v v_1)) 3))", "5"}, {"(def main (let ((f 1) (f_1 2) (v 3) (v_1 4)) ((fn (f_2 v_2) (- (- f f_1) (- v (- v_1 (- f_2 v_2))))) 5 6)))", "1"},
		{"(def main ((fn (v) ((fn (v_1) ((fn (v_2) (- v (- v_1 v_2))) 1)) 2)) 3))", "2"}, {"(def main (let ((v 1) (x 2)) ((fn (y) (let ((v 7)) (- (* x y) v))) 4)))", "1"}, {lists + "(def v x 9) (def main (let ((y 1)) ((fn (z) (case z ((P v f) (- y (- v f))) (_ y))) (P 5 3))))", "-1"},
		{"(def g f (fn (x) (+ 1 x))) (def main (g 5 2))", "3"}, {"(def main ((fn (f) ((fn (x) (+ 1 x)) 2)) 5))", "3"}, {"(def main (let ((f 5)) ((fn (x) (+ 1 x)) 2)))", "3"}, {lists + "(def main (case (B 5) ((B f) ((fn (x) (+ 1 x)) 2))))", "3"}, {"(def f 5) (def main ((fn (x) (+ 1 x)) 2))", "3"},
		{"(def g x (fn (v) (- x v))) (def main (g 5 2))", "3"}, {"(def g x (fn (y) (let ((v y)) (- x v)))) (def main (g 5 2))", "3"}, {lists + "(def g x (fn (y) (case y ((B v) (- x v))))) (def main (g 5 (B 2)))", "3"}, {"(def v 2) (def g x (fn (y) (- x v))) (def main (g 5 1))", "3"}, {"(def g v (fn (y) (- v y))) (def main (g 5 2))", "3"},
		// What is bound is evaluated once, and not unless it is needed.
		{"(def main (let ((x (fail 3))) ((fn (y) (fn (z) x)) 1)))", "<fn>"}, {"(def main (let ((x (fail 3)) (f (fn (y) x))) (seq f 2)))", "2"}, {"(def main (let ((x (fail 3)) (f (fn (y) x))) (f 2)))", "!3"}, {"(def main ((fn (x) (fn (y) (fail 2))) 1))", "<fn>"}, {"(def main ((fn (x) 1) (fail 2)))", "1"},
		// Of functions: with less than they take, with more, in trees.
		{"(def main ((fn (x y) x) 1))", "<fn>"}, {"(def main ((fn (x) (fn (y) x)) 1 2))", "1"}, {lists + "(def main (let ((x 5)) (P (fn (y) x) ((fn (z) (P x z)) 1))))", "(P <fn> (P 5 1))"}, {lists + "(def main (case (let ((x 5)) (B (fn (y) (+ x y)))) ((B f) (f 2))))", "7"},
		{"(def main (seq (fn (x) x) 3))", "3"}, {"(def main (+ ((fn (x) x) 1) (whole ((fn (y) (float y)) 4))))", "5"}, {"(def c x y (x (x y))) (def main ((c (fn (f) (fn (x) (f (f x))))) (fn (n) (* 2 n)) 1))", "16"},
	} {
		p := read(t, x.s)
		n.hold(t, p, 5, 5000)
		if o, _, _ := mean.Run(p, 5, 5000); obs.Text(o) != x.want {
			t.Errorf("%s: %q; want %q", x.s, obs.Text(o), x.want)
		}
	}
	if n.lifted < 200 || n.nothing > 0 {
		t.Error(n)
	}
}

// What is evaluated once in the program is so in what is made of it: it takes as many steps, and one more for each time that a Fn which takes something is evaluated.
func TestSteps(t *testing.T) {
	for _, x := range []struct {
		s           string
		steps, more int64
	}{
		{"(def main (+ 1 2))", 3, 0}, {"(def main (fn (x) x))", 1, 0}, {"(def main ((fn (x) x) 1))", 4, 0}, {"(def main (let ((y 1)) (fn (x) y)))", 2, 1},
		{"(def main (let ((y (+ 1 2)) (f (fn (x) (+ x y)))) (+ (f 1) (f 2))))", 18, 1},
		{"(def main (let ((y 1) (f (fn (x) (fn (z) (+ x (+ y z)))))) (+ (f 1 2) (f 3 4))))", 24, 3},
		{"(def f x (fn (y) (+ x y))) (def main (let ((g (f (* 2 3)))) (+ (g 1) (+ (g 2) (g 3)))))", 27, 1},
	} {
		p := read(t, x.s)
		q := wantLifted(t, p)
		a, steps, _ := mean.Run(p, 5, 1000)
		b, more, _ := mean.Run(q, 5, 1000)
		if !obs.Same(a, b) || steps != x.steps || more != x.steps+x.more {
			t.Errorf("%s: %q, %d; %q, %d; want %d and %d", x.s, obs.Text(a), steps, obs.Text(b), more, x.steps, x.more)
		}
	}
}

// The errors of scope, as they are.
func TestErrors(t *testing.T) {
	wrong := []string{
		"", "(def f 1)", "(def main x 1)", "(def f x)", "(def main x)", "(def main ((fn (x) x) y))", "(def main (fn (x x) x))", "(def main 1) (def main 2)", "(def f x x 1) (def main 1)", "(def main C)", "(def main ((fn (x) x) x))", "(def main (let ((x 1)) ((fn (y) z) x)))",
		"(data T) (data T) (def main 1)", "(data T (C U)) (def main 1)", lists + "(def main (case N ((C x) 1)))", lists + "(def main (fn (x) (case N ((C x x) x))))", lists + "(def main (let ((x 1) (x 2)) x))",
	}
	var l []api.Program
	for _, s := range wrong {
		l = append(l, read(t, s))
	}
	for _, e := range wrongExprs() {
		l = append(l, api.Program{Defs: []api.Def{{Name: "main", Body: e}}}, api.Program{Defs: []api.Def{{Name: "f", Params: []string{"x"}, Body: api.Expr{Op: api.Fn, Names: []string{"y"}, L: []api.Expr{e}}}, {Name: "main", Body: api.Expr{Op: api.Int}}}})
	}
	l = append(l, api.Program{Defs: slices.Repeat([]api.Def{{Name: "main"}}, api.MaxDefs+1)}, api.Program{Datas: make([]api.Data, 1), Defs: read(t, "(def main 1)").Defs}, api.Program{Defs: []api.Def{{Name: "Main", Body: api.Expr{Op: api.Int}}}})
	for i, p := range l {
		want := scope.Check(p)
		if got, err := lift.Lift(p); want == nil || !reflect.DeepEqual(err, want) || !reflect.DeepEqual(got, api.Program{}) {
			t.Errorf("%d: %v; want %v", i, err, want)
		}
	}
	for _, x := range []struct {
		s    string
		want error
	}{
		{"(def f 1)", api.ErrMain}, {lists + "(def f 1) (def main ((fn (x) x) y))", &api.At{Pos: 4, Err: api.ErrNone}}, {lists + "(def main (fn (x x) x))", &api.At{Pos: 3, Err: api.ErrTwice}}, {lists + "(def main (case N ((C x) 1)))", &api.At{Pos: 3, Err: api.ErrArity}},
	} {
		if _, err := lift.Lift(read(t, x.s)); !reflect.DeepEqual(err, x.want) {
			t.Errorf("%s: %v; want %v", x.s, err, x.want)
		}
	}
}

func v(name string) api.Expr { return api.Expr{Op: api.Var, Name: name} }

func app(l ...api.Expr) api.Expr { return api.Expr{Op: api.App, L: l} }

func fn(e api.Expr, names ...string) api.Expr {
	return api.Expr{Op: api.Fn, Names: names, L: []api.Expr{e}}
}

// wrongExprs is expressions that syn.Valid does not take, without a Fn that is whole.
func wrongExprs() []api.Expr {
	one := api.Expr{Op: api.Int, N: 1}
	endless := app(one, one)
	endless.L[1] = endless
	return []api.Expr{
		{}, {Op: -1}, {Op: 11}, v(""), v("X"), {Op: api.Var, Name: "main", N: 1}, {Op: api.Con, Name: "c"}, {Op: api.Flo, N: -1}, {Op: api.Fail, N: -1}, app(), app(one), app(one, api.Expr{}), {Op: api.Fn}, fn(one), fn(one, "X"), {Op: api.Fn, Names: []string{"x"}}, {Op: api.Fn, Names: []string{"x"}, L: []api.Expr{one, one}},
		{Op: api.Let, L: []api.Expr{one}}, {Op: api.Let, Names: []string{"x"}, L: []api.Expr{one}}, {Op: api.Case, L: []api.Expr{one}}, {Op: api.Case, Alts: []api.Alt{{Take: api.TakeAny, E: one}}}, {Op: api.Prim, Name: "+", L: []api.Expr{one}}, {Op: api.Prim}, endless,
	}
}

// A Fn is found wherever it is, in whatever.
func TestFlat(t *testing.T) {
	for _, s := range []string{"", "(data T (C (-> T T)))", "(def f x 1)", "(def main 1)", "(def f x y (x y)) (def main (let ((x f)) (case (x 1 2) ((C fn1) 2) (_ (f+ 1p0 nan)))))", "(def main (fail 6))", "(def main N)"} {
		if !lift.Flat(read(t, s)) {
			t.Error(s)
		}
	}
	if !lift.Flat(api.Program{}) {
		t.Error("of nothing")
	}
	for _, s := range []string{
		"(def f ?)", "(def main 1) (def f ?)", "(def f ?) (def main 1)", "(def f x y ?)", "(def f (? 1))", "(def f (g ?))", "(def f (g 1 2 ? 3))", "(def f (C ?))", "(def f (+ ? 1))", "(def f (+ 1 ?))", "(def f (seq 1 ?))", "(def f (float ?))",
		"(def f (let ((x ?)) x))", "(def f (let ((x 1) (y ?) (z 2)) x))", "(def f (let ((x 1)) ?))", "(def f (case ? (_ 1)))", "(def f (case 1 (_ ?)))", "(def f (case 1 (1 2) (2 ?) (_ 3)))", "(def f (case 1 ((C x) ?)))", "(def f (g (case (let ((x 1)) (case 2 (2 (+ 1 ?)))) (_ 1))))",
	} {
		ahead, behind, _ := strings.Cut(s, "?")
		for _, x := range []struct {
			e    string
			want bool
		}{{"(fn (x) 1)", false}, {"(fn (x y) (x y))", false}, {"x", true}, {"(x 1)", true}, {"(fail 6)", true}} {
			if got := lift.Flat(read(t, ahead+x.e+behind)); got != x.want {
				t.Errorf("%s: %v", ahead+x.e+behind, got)
			}
		}
	}
}

// Of programs that syn.Valid does not take, too.
func TestFlatOfWrongPrograms(t *testing.T) {
	of := func(e ...api.Expr) (p api.Program) {
		for _, e := range e {
			p.Defs = append(p.Defs, api.Def{Body: e})
		}
		return p
	}
	for op := -1; op < 13; op++ {
		for i, l := range [][]api.Expr{{}, {{}}, {v("x"), {Op: 20}}, {fn(v("x"))}, {{}, {L: []api.Expr{{}, {Op: api.Fn}}}}} {
			e := api.Expr{Op: op, Name: "fn", N: api.Fn, Names: []string{"fn", ""}, L: l}
			want := op != api.Fn && i < 3
			if got := lift.Flat(of(e)); got != want {
				t.Errorf("%d, %d: %v", op, i, got)
			}
			for k, p := range []api.Program{of(e, v("x")), of(v("x"), e), of(app(v("x"), e)), of(api.Expr{Op: api.Case, Alts: []api.Alt{{Take: 9}, {Take: api.Fn, N: api.Fn, E: e}, {}}})} {
				if got := lift.Flat(p); got != want {
					t.Errorf("%d, %d, %d: %v", op, i, k, got)
				}
			}
		}
	}
	for i, e := range wrongExprs() {
		lift.Flat(of(e))
		if lift.Flat(of(app(e, fn(v("x"), "x")))) {
			t.Error(i)
		}
	}
}
