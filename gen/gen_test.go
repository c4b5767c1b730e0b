package gen_test

import (
	"strings"
	"testing"

	"gristmill/api"
	"gristmill/gen"
	"gristmill/grin"
	"gristmill/infer"
	"gristmill/lift"
	"gristmill/mean"
	"gristmill/obs"
	"gristmill/programs"
	"gristmill/run"
	"gristmill/syn"
)

const lists = programs.Lists

func read(t *testing.T, s string) api.Program {
	t.Helper()
	p, err := syn.Parse(s)
	if err != nil {
		t.Fatalf("%.300q: %v", s, err)
	}
	return p
}

// lifted is what lift.Lift makes of the program, which has to be right.
func lifted(t *testing.T, p api.Program) api.Program {
	t.Helper()
	if _, err := infer.Types(p); err != nil {
		t.Fatalf("%.3000s: %v", syn.Text(p), err)
	}
	q, err := lift.Lift(p)
	if err != nil {
		t.Fatalf("%.3000s: %v", syn.Text(p), err)
	}
	return q
}

// generated is the steps of the program.
func generated(t *testing.T, p api.Program) grin.Prog {
	t.Helper()
	g, err := gen.Gen(p)
	if err == nil {
		err = grin.Valid(g)
	}
	if err != nil {
		t.Fatalf("%.3000s: %v", syn.Text(p), err)
	}
	return g
}

// tally counts what was observed.
type tally struct{ seen, deep, fault, nothing int }

// hold holds what the steps of the program do against what it means, at depths up to most. It has to be one that Lift made of a right one.
func (n *tally) hold(t *testing.T, p api.Program, most int) {
	t.Helper()
	g := generated(t, p)
	for depth := range most + 1 {
		want, steps, is := mean.Run(p, depth, 5000)
		if !is {
			n.nothing++
			wantNothing(t, p, g, depth)
			continue
		}
		out := run.Run(g, depth, 200*steps+400)
		if out.How != api.Ended || !obs.Same(out.Obs, want) {
			t.Fatalf("%.3000s at %d: %d, %.300s, %d; want %.300s, %d", syn.Text(p), depth, out.How, obs.Text(out.Obs), out.Steps, obs.Text(want), steps)
		}
		switch {
		case want.Kind == api.SeenFault:
			n.fault++
		case len(want.L) > 0:
			n.deep++
		default:
			n.seen++
		}
	}
}

// wantNothing holds that the steps of a program that means nothing within 5,000 steps do not end, or with what it means within more.
func wantNothing(t *testing.T, p api.Program, g grin.Prog, depth int) {
	t.Helper()
	out := run.Run(g, depth, 10000)
	if out.How == api.Ended {
		if want, _, is := mean.Run(p, depth, api.MaxFuel); is && obs.Same(want, out.Obs) {
			return
		}
	}
	if out.How != api.OutOfFuel {
		t.Fatalf("%.3000s at %d: %d, %s, %d", syn.Text(p), depth, out.How, obs.Text(out.Obs), out.Steps)
	}
}

// wantSeen holds what the program means, at depth 5.
func wantSeen(t *testing.T, s, want string) {
	t.Helper()
	p := lifted(t, read(t, s))
	new(tally).hold(t, p, 6)
	if out := run.Run(generated(t, p), 5, 100000); obs.Text(out.Obs) != want {
		t.Errorf("%.3000s: %d, %s; want %s", s, out.How, obs.Text(out.Obs), want)
	}
}

func TestExamples(t *testing.T) {
	g := generated(t, read(t, "(def main 3)"))
	place, ok := grin.Find(g, "main")
	if !ok || len(g.Funcs[place].Params) > 0 {
		t.Error(g)
	}
	if out := run.Run(g, 0, 100); out.How != api.Ended || obs.Text(out.Obs) != "3" || out.Steps != 2 {
		t.Error(out)
	}
	// What is not needed has no steps.
	if g := generated(t, read(t, lists+"(def f x (f x)) (def n 1) (def main 3) (def g main)")); len(g.Funcs) != 1 {
		t.Error(g)
	}
}

// What each expression is, in each place where it may be: returned, evaluated within others, as a number, as what is looked at, as what nobody has evaluated yet.
func TestEachInEachPlace(t *testing.T) {
	const tops = lists + "(data T A (D T) (E Int Float T)) (def one 1) (def seven (+ one 6)) (def add (fn (x y) (+ x y))) (def k x y x) (def id x x) (def use x (+ x one)) (def pair (fn (x) (P x))) (def swap f x y (f y x)) (def loop x (loop x)) (def ones (C 1 ones)) (def half (f/ 1p0 1p1))"
	ints := []string{
		"1", "-5", "x", "one", "seven", "(+ x 1)", "(- (* 2 x) (div x 2))", "(mod x seven)", "(< x 2)", "(= x x)", "(f< 1p0 half)", "(f= half half)", "(whole (f* 1p3 (float x)))", "(whole (f- half 1p2))", "(seq x 4)", "(seq (k x loop) (+ x x))", "(seq (fail 3) 1)", "(seq 1 (fail 3))",
		"(k x 1)", "(k x (fail 2))", "(id x)", "(id one)", "(id seven)", "(id id x)", "(id id id seven)", "(use x)", "(use seven)", "(use (use x))", "(add x seven)", "((add x) 2)", "((k add 1) x 3)", "(swap k x one)", "(swap add seven x)", "(swap (fn (a b) (- a b)) x 9)", "(f x)", "(f (f x))", "(g x 4)", "((g x) 4)", "((id g) x 4)", "((fn (a) (+ a x)) 5)", "(h)",
		"(let ((a 1)) a)", "(let ((a x)) (+ a a))", "(let ((a b) (b x)) a)", "(let ((a (+ b x)) (b 2)) (* a b))", "(let ((x 5)) x)", "(let ((x 5) (y x)) (- y x))", "(let ((a (fn (n) (case n (0 x) (_ (a (- n 1))))))) (a 3))", "(let ((a (C 1 b)) (b (C x a))) (case b ((C u v) (case v ((C w z) (+ u w))))))", "(let ((u one) (v seven) (w k)) (w u v))", "(let ((a (a2 1)) (a2 (fn (z) (+ z x)))) (+ a (a2 a)))",
		"(case x (3 10) (_ 20))", "(case x (1 2) (2 3))", "(case (+ x 1) (4 (+ x x)) (_ 0))", "(case x (_ 5))", "(case (fail 2) (_ 1))", "(case l ((C a b) a) (N 0))", "(case l (N 1) (_ 2))", "(case (C 1 N) (N 5))", "(case l ((C a b) (case b (N (+ a x)) ((C c d) c))))", "(case (P x seven) ((P a b) (- a b)))", "(case half (_ x))", "(case add (_ 2))", "(case (E 1 half A) ((D y) 1) ((E u v w) (case w (A (+ u (whole v))) (_ 0))) (A 2))", "(case ones ((C a r) (case r ((C b s) (+ a b)))))", "(case seven (7 x) (_ 9))", "(case (case x (3 N) (_ l)) (N 1) (_ 2))", "(case (let ((a x)) a) (3 1) (_ 2))", "(case (seq 1 x) (3 1) (_ 2))", "(case (fail 6) (1 1))", "(case x (3 (fail 8)) (_ 1))", "(case x (1 1) (1 2) (3 30) (3 40) (_ 5) (7 7) (_ 8))",
		"(fail 7)", "(+ (fail 1) (fail 2))", "(div x 0)", "(div (fail 4) 0)", "(whole nan)", "(id (fail 5))", "((fail 6) (fail 5))", "((id (fail 6)) x)", "(loop 1)",
	}
	var n tally
	for _, e := range ints {
		e = strings.Replace(e, "(h)", "h", 1)
		for _, around := range []string{
			"?", "(+ ? 1)", "(+ 1 ?)", "(+ ? ?)", "(f= (float ?) 1p0)", "(seq ? 9)", "(seq 9 ?)", "(id ?)", "(k 1 ?)", "(k ? 1)", "(f ?)", "(g ? ?)", "((fn (q r) (+ q q)) ? 1)", "(add ? ?)", "(let ((q ?)) 1)", "(let ((q ?)) (+ q q))", "(let ((q (+ r 1)) (r ?)) q)", "(let ((q (C ? q))) (case q ((C s r) (case r ((C s r) s)))))", "(let ((q 1)) ?)", "(case ? (3 4) (10 11) (_ ?))", "(case x (3 ?) (_ 1))", "(case x (4 1) (_ ?))", "(case x (_ ?))", "(case ? (_ 1))", "(case (P ? ?) ((P a b) (+ a b)))", "(case l ((C a b) ?) (_ 2))", "(case (C 1 (C ? N)) ((C a b) a) (N 5))", "(case (case ? (1 l) (_ N)) (N 4) (_ 5))", "((case ? (1 f) (_ id)) 8)", "(whole (float ?))", "(case (swap P ? 1) ((P a b) b))",
		} {
			s := tops + "(def try x f g h l " + strings.ReplaceAll(around, "?", e) + ") (def main (P (try 3 id add 4 (C 2 N)) (try seven (fn (x) (* x 2)) k one ones)))"
			n.hold(t, lifted(t, read(t, s)), 2)
		}
	}
	if n.seen < 2000 || n.deep < 3000 || n.fault < 500 || n.nothing < 50 {
		t.Error(n)
	}
}

func TestMeaning(t *testing.T) {
	for _, x := range []struct{ s, want string }{
		{lists + "(def main (P (+ 1 2) (f* 3p-1 1p1)))", "(P 3 3p0)"},
		{lists + "(def from n (C n (from (+ n 1)))) (def main (from 5))", "(C 5 (C 6 (C 7 (C 8 (C 9 _)))))"},
		{lists + "(def main (let ((x (C 1 y)) (y (C 2 x))) x))", "(C 1 (C 2 (C 1 (C 2 (C 1 _)))))"},
		{lists + "(def main (C 1 main))", "(C 1 (C 1 (C 1 (C 1 (C 1 _)))))"},
		{"(data Q (Q (-> Int Q) Q)) (def main (Q f main)) (def f x main)", "(Q <fn> (Q <fn> (Q <fn> (Q <fn> (Q <fn> _)))))"},
		{lists + "(def a (C 1 b)) (def b (C 2 a)) (def main (P a b))", "(P (C 1 (C 2 (C 1 (C 2 _)))) (C 2 (C 1 (C 2 (C 1 _)))))"},
		{lists + "(def main (C 1))", "<fn>"}, {"(def main (fn (x) x))", "<fn>"}, {"(def f x y x) (def main (f 1))", "<fn>"}, {lists + "(def main C)", "<fn>"},
		{lists + "(def map f l (case l (N N) ((C x r) (C (f x) (map f r))))) (def main (map C (C 1 N)))", "(C <fn> N)"},
		{lists + "(def map f l (case l (N N) ((C x r) (C (f x) (map f r))))) (def main (map (P 1) (C 2 (C 3 N))))", "(C (P 1 2) (C (P 1 3) N))"},
		{lists + "(def fold f z l (case l (N z) ((C x r) (f x (fold f z r))))) (def main (fold C (fold (fn (a b) (C (+ a 1) b)) N (C 1 N)) (C 3 N)))", "(C 3 (C 2 N))"},
		{lists + "(def main (let ((f (fn (x y) (P x y))) (g (f 1))) (P (g 2) (g N))))", "(P (P 1 2) (P 1 N))"},
		{lists + "(def primes (sieve (from 2))) (def from n (C n (from (+ n 1)))) (def sieve l (case l ((C p r) (C p (sieve (filter (fn (x) (mod x p)) r)))))) (def filter f l (case l ((C x r) (case (f x) (0 (filter f r)) (_ (C x (filter f r))))))) (def main primes)", "(C 2 (C 3 (C 5 (C 7 (C 11 _)))))"},
		{lists + "(def fibs (C 0 (C 1 (zip fibs (tail fibs))))) (def tail l (case l ((C x r) r))) (def zip a b (case a ((C x r) (case b ((C y s) (C (+ x y) (zip r s))))))) (def nth n l (case l ((C x r) (case n (0 x) (_ (nth (- n 1) r)))))) (def main (nth 60 fibs))", "1548008755920"},
		{"(def even n (case n (0 1) (_ (odd (- n 1))))) (def odd n (case n (0 0) (_ (even (- n 1))))) (def main (even 101))", "0"},
		{"(def main (let ((x 1)) (let ((y x) (x 2)) (let ((x y) (y 5)) (+ (* 10 x) y)))))", "55"},
		{lists + "(def main (let ((v 1) (n 2) (globals 3) (row 4) (pack 5)) (P (+ v (+ n globals)) (P row pack))))", "(P 6 (P 4 5))"},
	} {
		wantSeen(t, x.s, x.want)
	}
}

// What is evaluated once in the program is so in its steps: else these would be twice as many for each.
func TestSharing(t *testing.T) {
	double := func(form string) string {
		s := "1"
		for i := range 20 {
			n := string(rune('a' + i))
			s = strings.NewReplacer("?", n, "!", s).Replace(form)
		}
		return s
	}
	for _, s := range []string{
		"(def main " + double("(let ((? !)) (+ ? ?))") + ")",
		"(def add x y (+ x y)) (def main " + double("(let ((? !)) (add ? ?))") + ")",
		"(def main " + double("((fn (?) (+ ? ?)) !)") + ")",
		"(def f x (+ x x)) (def main " + double("(f !)") + ")",
		lists + "(def main " + double("(case (P ! 1) ((P ? z) (+ ? ?)))") + ")",
		lists + "(def sum x (case x ((P y z) (+ y z)))) (def main " + double("(sum (let ((? !)) (P ? ?)))") + ")",
		"(def main (let (" + strings.ReplaceAll("(? (+ !))", "?", "a") + ") a))",
		"(def id x x) (def main " + double("(let ((? (id !))) (+ ? (id ?)))") + ")",
		"(def id x x) (def tw f x (+ (f x) (f x))) (def main " + double("(tw id !)") + ")",
	} {
		if strings.Contains(s, "(+ !)") {
			s = "(def a0 1)"
			for i := range 20 {
				s += strings.NewReplacer("?", string(rune('a'+i)), "!", string(rune('a'+i+1))).Replace(" (def ?1 (+ !1 !1))")
			}
			s += " (def u1 1) (def main a1)"
		}
		p := lifted(t, read(t, s))
		_, steps, is := mean.Run(p, 3, 5000)
		if !is || steps > 400 {
			t.Fatal(s, steps)
		}
		new(tally).hold(t, p, 1)
	}
}

// What never ends, in its steps neither: it is out of fuel, whatever that is.
func TestNeverEnds(t *testing.T) {
	for _, s := range []string{
		"(def loop x (loop x)) (def main (loop 1))", "(def main main)", "(def main (let ((x x)) x))", "(def main (let ((x y) (y x)) x))", "(def main (let ((x y) (y z) (z x)) y))", "(def main (let ((x (+ y 1)) (y x)) x))", "(def a b) (def b a) (def main a)", "(def main (+ main 1))", "(def f x main) (def main (f 1))",
		"(def id x x) (def main (let ((x (id x))) x))", "(def main (let ((x (seq x 1))) x))", "(def main (let ((x (case x (1 2)))) x))", "(def main (let ((f (fn (x) (f x)))) (f 1)))", "(def f x (+ 1 (f x))) (def main (f 1))", "(def f x (f (+ x 1))) (def main (f 1))", "(def ap f x (f x)) (def main (let ((x (ap y 1)) (y (ap z)) (z (fn (a) x))) x))",
		lists + "(def len l (case l (N 0) ((C x r) (+ 1 (len r))))) (def ones (C 1 ones)) (def main (len ones))", lists + "(def last l (case l ((C x r) (last r)) (N 1))) (def from n (C n (from (+ n 1)))) (def main (last (from 1)))", "(def loop loop) (def main (seq loop (fail 1)))", "(def loop loop) (def main (+ loop (fail 1)))", "(def loop loop) (def main (loop (fail 1)))", "(def loop loop) (def main (case loop (_ (fail 1))))", "(def loop loop) (def main (case loop (1 (fail 1))))",
	} {
		p := lifted(t, read(t, s))
		g := generated(t, p)
		for _, fuel := range []int64{0, 1, 2, 17, 1000, 100000, api.MaxFuel} {
			for depth := range 3 {
				if out := run.Run(g, depth, fuel); out.How != api.OutOfFuel || out.Steps != fuel {
					t.Error(s, fuel, out)
				}
			}
		}
	}
	// At the depth at which it is looked at.
	const loops = lists + "(def loop x (loop x)) (def main (P 1 (P (loop 1) (fail 7))))"
	p := read(t, loops)
	for depth, want := range []string{"_", "(P 1 _)", "", ""} {
		if out := run.Run(generated(t, p), depth, 100000); obs.Text(out.Obs) != want || (out.How == api.Ended) != (want != "") {
			t.Error(depth, out)
		}
	}
}
