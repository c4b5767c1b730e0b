package mean_test

import (
	"reflect"
	"testing"

	"gristmill/api"
	"gristmill/mean"
	"gristmill/obs"
	"gristmill/programs"
	"gristmill/syn"
)

// lists is data that the programs of the tests have.
const lists = programs.Lists

func read(t *testing.T, s string) api.Program {
	t.Helper()
	p, err := syn.Parse(s)
	if err != nil {
		t.Fatalf("%.300q: %v", s, err)
	}
	return p
}

func readExpr(t *testing.T, s string) api.Expr {
	t.Helper()
	return read(t, "(def e "+s+")").Defs[0].Body
}

// answer is what Run and Expr answer.
type answer struct {
	obs   api.Obs
	steps int64
	is    bool
}

func run(p api.Program, depth int, fuel int64) (a answer) {
	a.obs, a.steps, a.is = mean.Run(p, depth, fuel)
	return a
}

func runExpr(p api.Program, e api.Expr, depth int, fuel int64) (a answer) {
	a.obs, a.steps, a.is = mean.Expr(p, e, depth, fuel)
	return a
}

// nothing is the answer where nothing is observed.
func nothing(steps int64) answer { return answer{steps: steps} }

// meaning is what a program is observed as at a depth, in how many steps.
type meaning struct {
	s     string
	depth int
	want  string
	steps int64
}

// wantMeaning holds Run against it: with just as much fuel as it takes, with more and with less; and Expr of main, which is one step more.
func wantMeaning(t *testing.T, l ...meaning) {
	t.Helper()
	for _, x := range l {
		p := read(t, x.s)
		o, err := obs.Parse(x.want)
		if err != nil {
			t.Fatal(x.want, err)
		}
		for _, fuel := range []int64{x.steps, x.steps + 1, 2 * x.steps, api.MaxFuel, 1 << 62} {
			if got := run(p, x.depth, fuel); !reflect.DeepEqual(got, answer{o, x.steps, true}) {
				t.Errorf("%s at %d with %d: %q, %d, %v; want %q, %d", x.s, x.depth, fuel, obs.Text(got.obs), got.steps, got.is, x.want, x.steps)
			}
		}
		for fuel := x.steps - 1; fuel >= 0; fuel-- {
			if got := run(p, x.depth, fuel); !reflect.DeepEqual(got, nothing(fuel)) {
				t.Errorf("%s at %d with %d: %q, %d, %v; want nothing", x.s, x.depth, fuel, obs.Text(got.obs), got.steps, got.is)
			}
		}
		if got := runExpr(p, api.Expr{Op: api.Var, Name: "main"}, x.depth, x.steps+1); !reflect.DeepEqual(got, answer{o, x.steps + 1, true}) {
			t.Errorf("main of %s at %d: %q, %d, %v; want %q", x.s, x.depth, obs.Text(got.obs), got.steps, got.is, x.want)
		}
	}
}

// wantNothing holds that none of the programs is observed as something, whatever the fuel.
func wantNothing(t *testing.T, depth int, l ...string) {
	t.Helper()
	for _, s := range l {
		p := read(t, s)
		for _, fuel := range []int64{0, 1, 2, 3, 10, 1000, 200000, api.MaxFuel} {
			if got := run(p, depth, fuel); !reflect.DeepEqual(got, nothing(fuel)) {
				t.Errorf("%.300s at %d with %d: %.300q, %d, %v; want nothing", s, depth, fuel, obs.Text(got.obs), got.steps, got.is)
			}
		}
	}
}

func TestNumbers(t *testing.T) {
	wantMeaning(t,
		meaning{"(def main (+ 1 2))", 5, "3", 3}, meaning{"(def main 3)", 0, "3", 1}, meaning{"(def main -9223372036854775808)", 1, "-9223372036854775808", 1},
		meaning{"(def main 3p-1)", 0, "3p-1", 1}, meaning{"(def main -0p0)", 0, "-0p0", 1}, meaning{"(def main nan)", 0, "nan", 1}, meaning{"(def main -inf)", 40, "-inf", 1})
}

func TestVar(t *testing.T) {
	wantMeaning(t,
		// A definition with parameters is a function, one without is one cell.
		meaning{"(def f x x) (def main f)", 5, "<fn>", 1}, meaning{"(def f x f) (def main (f 1))", 5, "<fn>", 3},
		meaning{"(def n 5) (def main n)", 5, "5", 2}, meaning{"(def m n) (def n 5) (def main m)", 5, "5", 3}, meaning{"(def main (+ n n)) (def n (+ 1 1))", 5, "4", 6},
		// What binds a name last hides what binds it further out, and a definition.
		meaning{"(def x 7) (def f x x) (def main (f 1))", 5, "1", 4}, meaning{"(def x 7) (def f y x) (def main (f 1))", 5, "7", 4},
		meaning{"(def main (let ((main 3)) main))", 5, "3", 3}, meaning{"(def main ((fn (x) ((fn (x) x) 2)) 1))", 5, "2", 6}, meaning{"(def main ((fn (x y) ((fn (y) x) 2)) 1 3))", 5, "1", 6},
		meaning{lists + "(def main (let ((a 1) (b 2)) (case (P 3 4) ((P b c) (let ((c 5)) (- (* 100 a) (- (* 10 b) c)))))))", 5, "75", 17})
}

// It is evaluated once, whoever needs it.
func TestACellIsEvaluatedOnce(t *testing.T) {
	wantMeaning(t,
		meaning{"(def main (let ((x (+ 1 1))) (+ x x)))", 5, "4", 7}, meaning{"(def f x (* x (* x x))) (def main (f (+ 1 1)))", 5, "8", 10},
		meaning{"(def g a b (+ a b)) (def f x (g x x)) (def main (f (+ 1 1)))", 5, "4", 10},
		meaning{lists + "(def main (let ((x (P (+ 1 1) N))) (case x ((P a b) (case x ((P c d) (+ a c)))))))", 5, "4", 13},
		meaning{lists + "(def main (let ((x (+ 1 1))) (P x (C x N))))", 5, "(P 2 (C 2 N))", 9},
		meaning{lists + "(def f (case 1 (1 (fn (x) (+ x 1))))) (def main (+ (f 1) (f 2)))", 5, "5", 16})
	// Each is twice the one ahead of it: without sharing that would be 2^60 steps.
	s := "(def main (let ((a0 1)"
	for i := range 59 {
		last, name := "a"+text(i), "a"+text(i+1)
		s += " (" + name + " (+ " + last + " " + last + "))"
	}
	wantMeaning(t, meaning{s + ") a59))", 5, "576460752303423488", 3 + 3*59})
}

// A definition, and what a Let's name is, has a cell of its own, also if it is a name; an argument that is a name bound around it has the name's.
func TestCellsOfNames(t *testing.T) {
	wantMeaning(t,
		meaning{"(def n 1) (def g a (+ a a)) (def main (g n))", 5, "2", 7}, meaning{"(def g a (+ a a)) (def main (let ((n 1)) (g n)))", 5, "2", 7}, meaning{"(def n 1) (def g a b (+ a b)) (def main (g n n))", 5, "2", 8}, meaning{"(def g a b (+ a b)) (def main (let ((n 1)) (g n n)))", 5, "2", 7},
		meaning{"(def main (let ((x 1) (y x)) y))", 5, "1", 4}, meaning{"(def main (let ((x 1) (y x)) (+ y y)))", 5, "2", 6}, meaning{"(def main (let ((x 1)) (let ((y x) (z x)) (+ y z))))", 5, "2", 8},
		meaning{lists + "(def main (let ((x 1)) (P x x)))", 1, "(P 1 1)", 4}, meaning{lists + "(def x 1) (def main (P x x))", 1, "(P 1 1)", 5}, meaning{lists + "(def main (P main main))", 2, "(P (P _ _) (P _ _))", 4},
		meaning{"(def id x x) (def main (id id 5))", 5, "5", 6}, meaning{"(def main ((fn (f) (f f 5)) (fn (x) x)))", 5, "5", 8})
}

func TestCon(t *testing.T) {
	wantMeaning(t,
		meaning{lists + "(def main N)", 1, "N", 1}, meaning{lists + "(def main C)", 5, "<fn>", 1}, meaning{lists + "(def main (C 1))", 5, "<fn>", 2}, meaning{lists + "(def main (C 1 N))", 2, "(C 1 N)", 4},
		meaning{lists + "(def main ((P 1) 2))", 5, "(P 1 2)", 5}, meaning{lists + "(def main (let ((p (P 1))) (P (p 2) (p 3))))", 5, "(P (P 1 2) (P 1 3))", 12},
		meaning{lists + "(def main (P C N))", 5, "(P <fn> N)", 4}, meaning{"(data T (A T) B) (def main (A (A (A B))))", 9, "(A (A (A B)))", 7}, meaning{"(data Int_ Int) (def main Int)", 1, "Int", 1})
}

func TestFnAndApp(t *testing.T) {
	wantMeaning(t,
		meaning{"(def main (fn (x) (fail 1)))", 5, "<fn>", 1}, meaning{"(def main ((fn (x y) (- x y)) 10 3))", 5, "7", 7}, meaning{"(def main ((fn (x y) (- x y)) 10))", 5, "<fn>", 2},
		meaning{"(def main ((fn (x) (fn (y) (+ x y))) 1 2))", 5, "3", 8}, meaning{"(def main (((fn (x) (fn (y) (+ x y))) 1) 2))", 5, "3", 9},
		meaning{"(def k x y x) (def main (k 1 (fail 3)))", 5, "1", 4}, meaning{"(def k x y x) (def main (k (fail 3) 1))", 5, "!3", 4}, meaning{"(def main ((fail 3) (fail 4)))", 5, "!3", 2},
		meaning{"(def add x y (+ x y)) (def twice f x (f (f x))) (def main (twice (add 3) 1))", 5, "7", 16},
		// A function that has some is the same for all who give it more.
		meaning{"(def main (let ((f ((fn (x y) (- x y)) 10))) (+ (f 1) (f 2))))", 5, "17", 17},
		meaning{lists + "(def f a b c (P a (P b c))) (def main (let ((g (f 1)) (h (g 2)) (i (g 3))) (P (h 4) (P (i 5) (P (h 6) (g 7 8))))))", 9, "(P (P 1 (P 2 4)) (P (P 1 (P 3 5)) (P (P 1 (P 2 6)) (P 1 (P 7 8)))))", 45},
		// More than it lacks: what it is then is applied to the rest.
		meaning{"(def f a (g a)) (def g a b (h a b)) (def h a b c (+ a (* b c))) (def main (f 1 2 3))", 5, "7", 14}, meaning{"(def i x x) (def main (i i i i 5))", 5, "5", 10},
		// What is bound around a Fn is what was bound where it came to be.
		meaning{"(def f x (fn (y) (- x y))) (def main (let ((x 1) (g (f 10))) (g x)))", 5, "9", 11}, meaning{lists + "(def main (case (P 1 2) ((P a b) ((fn (b) (- a b)) 5))))", 5, "-4", 10})
}

func TestLet(t *testing.T) {
	wantMeaning(t,
		meaning{"(def main (let ((x 1) (y (fail 2))) x))", 5, "1", 3}, meaning{"(def main (let ((x y) (y (+ z z)) (z 3)) x))", 5, "6", 7},
		meaning{lists + "(def main (let ((x (C 1 y)) (y (C 2 x))) x))", 3, "(C 1 (C 2 (C 1 _)))", 8}, meaning{lists + "(def main (let ((x (C 1 x))) x))", 4, "(C 1 (C 1 (C 1 (C 1 _))))", 5},
		meaning{"(def main (let ((f (fn (n) (case n (0 0) (_ (+ n (f (- n 1)))))))) (f 3)))", 5, "6", 35},
		meaning{"(def f x (let ((y x)) (fn (z) (+ y z)))) (def main (+ (f 1 2) (f 10 20)))", 5, "33", 21})
	wantNothing(t, 5, "(def main (let ((x x)) x))", "(def main (let ((x (+ y 1)) (y x)) x))", "(def main (let ((x 1)) (let ((x x)) x)))")
}

func TestCase(t *testing.T) {
	wantMeaning(t,
		meaning{"(def main (case 5 (1 2)))", 5, "!-1", 2}, meaning{"(def main (case 5 (1 2) (5 3) (_ 4)))", 5, "3", 3}, meaning{"(def main (case -5 (5 2) (-5 3)))", 5, "3", 3}, meaning{"(def main (case 0 (1 2) (_ 4)))", 5, "4", 3},
		// The first that takes it.
		meaning{"(def main (case 1 (_ 2) (1 3)))", 5, "2", 3}, meaning{"(def main (case 1 (1 2) (1 3)))", 5, "2", 3}, meaning{lists + "(def main (case N (N 1) (N 2)))", 5, "1", 3}, meaning{lists + "(def main (case N ((C a b) 1) (_ 2) (N 3)))", 5, "2", 3},
		meaning{lists + "(def main (case (P 1 2) ((P a b) (+ b b))))", 5, "4", 7}, meaning{lists + "(def main (case (P 1 2) ((P a b) (- a b))))", 5, "-1", 8}, meaning{lists + "(def main (case (C 1 N) (N 1) ((C a b) b)))", 1, "N", 5},
		meaning{lists + "(def main (case (B 1) ((B a) (+ a a))))", 5, "2", 7}, meaning{lists + "(def main (let ((a 1)) (case (B (B 2)) ((B b) (case b ((B c) (- a c)))))))", 5, "-1", 13}, meaning{lists + "(def main (let ((a 1)) (case N ((B b) b) (N a))))", 5, "1", 5},
		// What it is about is evaluated, no more of it than that.
		meaning{lists + "(def main (case (P (fail 1) (fail 2)) ((P a b) 3)))", 5, "3", 4}, meaning{lists + "(def main (case (P (fail 1) (fail 2)) ((P a b) b)))", 5, "!2", 5}, meaning{"(def main (case (fail 1) (_ 2)))", 5, "!1", 2}, meaning{lists + "(def main (case (fail 7) ((C a b) 2)))", 5, "!7", 2},
		// A number takes no tree, no float, no function; a constructor nothing but its trees.
		meaning{"(def main (case 0p0 (0 1) (_ 2)))", 5, "2", 3}, meaning{"(def main (case 0p0 (0 1)))", 5, "!-1", 2}, meaning{lists + "(def main (case N (0 1) ((C a b) 2) ((P a b) 3)))", 5, "!-1", 2}, meaning{lists + "(def main (case (P 1 2) ((C a b) 2)))", 5, "!-1", 3}, meaning{lists + "(def main (case 0 (N 1) ((C a b) 2)))", 5, "!-1", 2},
		meaning{lists + "(def main (case (P 1) ((P a b) 2)))", 5, "!-1", 3}, meaning{lists + "(def main (case C ((C a b) 2) (0 1) (_ 3)))", 5, "3", 3}, meaning{"(def main (case (fn (x) x) (0 1) (_ 3)))", 5, "3", 3}, meaning{"(def main (case 1p0 (_ 2)))", 5, "2", 3})
}

func text(n int) string { return obs.Text(api.Obs{Kind: api.SeenInt, N: int64(n)}) }
