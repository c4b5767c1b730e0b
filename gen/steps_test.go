package gen_test

import (
	"strconv"
	"strings"
	"testing"

	"gristmill/api"
	"gristmill/grin"
	"gristmill/tag"
)

// text is the program of steps, a line for each function.
func text(g grin.Prog) (s string) {
	for _, f := range g.Funcs {
		s += f.Name + "(" + strings.Join(f.Params, " ") + ") " + textOf(f.Steps) + "\n"
	}
	return s
}

func textOf(l []api.Step) string {
	var out []string
	for _, x := range l {
		s := ""
		if x.To != "" {
			s = x.To + " = "
		}
		s += [...]string{"?", "", "fetch", "update", "call ", "eval", "apply", "", "open", "case", "fail ", "ret", "field "}[x.Op] + x.Name
		if x.Op == api.DoNode {
			s += tag.Text(x.Tag)
		}
		if x.Op == api.DoFail || x.Op == api.DoField {
			s += strconv.FormatInt(x.N, 10)
		}
		for _, v := range x.Vals {
			if s += " " + v.Name; v.Kind != api.ValVar {
				s += strconv.FormatInt(v.N, 10)
			}
		}
		for _, b := range x.Alts {
			s += " {" + [...]string{"?", tag.Text(b.Tag), strconv.FormatInt(b.N, 10), "_"}[b.Take] + ": " + textOf(b.Steps) + "}"
		}
		out = append(out, s)
	}
	return strings.Join(out, "; ")
}

// How it is done is not promised, but it stays as it is.
func TestSteps(t *testing.T) {
	for _, x := range []struct{ s, want string }{
		{"(def main 3)", "main() v = I/0 3; ret v\n"},
		{"(def main (+ 1 (whole (float (* 2 3)))))", "main() n = * 2 3; n.1 = float n; n.2 = whole n.1; n.3 = + 1 n.2; v = I/0 n.3; ret v\n"},
		{"(def main (f x)) (def f x x) (def x 1p1)", "main() x = Fx/0; globals = CGlobals./1 x; x.1 = field 0 globals; v = call f x.1; ret v\n" +
			"f(x) x.1 = eval x; ret x.1\n" +
			"x() v = D/0 4611686018427387904; ret v\n"},
		{lists + "(def main (C 1 main))", "main() globals = I/0 0; main = Fmain.1/1 globals; globals.1 = CGlobals./1 main; update globals globals.1; main.1 = field 0 globals; ret main.1\n" +
			"main.1(globals) v = I/0 1; main = field 0 globals; v.1 = CC/2 v main; ret v.1\n"},
		// What needs nothing that comes later is made as it stands.
		{lists + "(def id x x) (def main (let ((x 1) (y (C x l)) (l N) (z (id x)) (f (C x)) (u (f l)) (w x) (r (id w x)) (q (id (id x)))) (case y ((C a b) (P z (P u (P r q)))))))",
			"main() v = I/0 1; v.1 = CN/0; v.2 = CC/2 v v.1; v.3 = Fid/1 v; v.4 = PC/1 v; v.5 = A/1 v.4 v.1; v.6 = Fmain.1/1 v; v.7 = Fmain.2/1 v; y = eval v.2; case y {CC/2: v.8 = Fmain.3/3 v.5 v.6 v.7; v.9 = CP/2 v.3 v.8; ret v.9} {_: fail 2147483648}\n" +
				"C(x x.1) v = CC/2 x x.1; ret v\n" +
				"main.1(w) v = call id w; v.1 = apply v w; ret v.1\n" +
				"main.2(x) v = Fid/1 x; v.1 = call id v; ret v.1\n" +
				"main.3(u r q) v = CP/2 r q; v.1 = CP/2 u v; ret v.1\n" +
				"id(x) x.1 = eval x; ret x.1\n"},
		{"(def id x x) (def main (let ((a (id b)) (b (id c)) (c d) (d 1)) a))", "main() v = I/0 1; v.1 = Fid/1 v; v.2 = Fid/1 v.1; a = eval v.2; ret a\n" +
			"id(x) x.1 = eval x; ret x.1\n"},
		{lists + "(def main (let ((x (C 1 y)) (y (C 2 x))) x))", "main() y = I/0 0; v = Fmain.1/1 y; v.1 = Fmain.2/1 v; update y v.1; x = eval v; ret x\n" +
			"main.1(y) v = I/0 1; v.1 = CC/2 v y; ret v.1\n" +
			"main.2(x) v = I/0 2; v.1 = CC/2 v x; ret v.1\n"},
		{"(def main (let ((x y) (y x)) x))", "main() y = I/0 0; v = Fmain.1/1 y; update y v; x = eval y; ret x\n" +
			"main.1(x) x.1 = eval x; ret x.1\n"},
		{"(def f x y (case x (1 (+ y 1)) (2 (fail 7)) (_ y))) (def main (f 1 2))", "main() v = I/0 1; v.1 = I/0 2; v.2 = call f v v.1; ret v.2\n" +
			"f(x y) x.1 = eval x; n = open x.1; case n {1: y.1 = eval y; n.1 = open y.1; n.2 = + n.1 1; v = I/0 n.2; ret v} {2: fail 7} {_: y.2 = eval y; ret y.2}\n"},
		{lists + "(def f x (case x ((C a b) (case b ((C c d) (+ a c)) (N 5))))) (def main (+ (case 1 (_ 2)) (case (f N) (1 2))))", "main() v = I/0 1; v.1 = call main.1; n = open v.1; n.1 = + 2 n; v.2 = I/0 n.1; ret v.2\n" +
			"main.1() v = CN/0; v.1 = call f v; n = open v.1; case n {1: v.2 = I/0 2; ret v.2} {_: fail 2147483648}\n" +
			"f(x) x.1 = eval x; case x.1 {CC/2: a = field 0 x.1; b = field 1 x.1; b.1 = eval b; case b.1 {CC/2: c = field 0 b.1; a.1 = eval a; n = open a.1; c.1 = eval c; n.1 = open c.1; n.2 = + n n.1; v = I/0 n.2; ret v} {CN/0: v.1 = I/0 5; ret v.1} {_: fail 2147483648}} {_: fail 2147483648}\n"},
		{"(def k x y x) (def n 1) (def g x y (+ x n)) (def main (seq (k (k 1 2) g) (let ((y 1)) (k (g y y) (fail 3)))))", "main() n = Fn/0; globals = CGlobals./1 n; v = Fmain.1/0; v.1 = Pg/2 globals; v.2 = call k v v.1; v.3 = I/0 1; v.4 = Fg/3 globals v.3 v.3; v.5 = Fmain.2/0; v.6 = call k v.4 v.5; ret v.6\n" +
			"main.1() v = I/0 1; v.1 = I/0 2; v.2 = call k v v.1; ret v.2\n" +
			"main.2() fail 3\n" +
			"k(x y) x.1 = eval x; ret x.1\n" +
			"n() v = I/0 1; ret v\n" +
			"g(globals x y) x.1 = eval x; n = open x.1; n.1 = field 0 globals; n.2 = eval n.1; n.3 = open n.2; n.4 = + n n.3; v = I/0 n.4; ret v\n"},
	} {
		g := generated(t, read(t, x.s))
		if got := text(g); got != x.want {
			t.Errorf("%s:\n%s; want\n%s", x.s, got, x.want)
		}
	}
}

// called is an App of so many names, or, if they are more than an App may have, one of such.
func called(names int) string {
	s := ""
	for i := 0; i < names; i += 60 {
		s += " (f"
		for k := i; k < min(i+60, names); k++ {
			s += " a" + strconv.Itoa(k)
		}
		s += ")"
	}
	for n := (names + 59) / 60; n > 60; n -= 59 {
		s = strings.Replace(s, "(f", "((f 1)", 1)
	}
	return "(f" + s + ")"
}

// How many variables what waits for such a one takes, and how many nodes are made for that.
func TestPacks(t *testing.T) {
	for _, x := range []struct{ names, takes, packs int }{{59, 59, 0}, {60, 60, 0}, {61, 2, 1}, {62, 3, 1}, {119, 60, 1}, {120, 2, 2}, {121, 3, 2}, {60 * 59, 59, 59}, {60*59 + 1, 60, 59}, {60 * 60, 60, 60}} {
		g := generated(t, read(t, "(def f x x) (def main "+letsOf(x.names, "(f "+called(x.names)+")", func(int) int { return 1 })+")"))
		packs := strings.Count(textOf(g.Funcs[0].Steps), "CPack./60")
		if f := g.Funcs[1]; f.Name != "main.1" || len(f.Params) != x.takes || packs != x.packs {
			t.Error(x, f.Name, len(f.Params), packs)
		}
	}
	// Beside the globals, which are never packed.
	for _, x := range []struct{ names, takes int }{{58, 59}, {59, 60}, {60, 2}, {61, 3}, {118, 60}, {119, 2}} {
		g := generated(t, read(t, "(def f x x) (def one 1) (def main "+lets(x.names, "(f (f one "+called(x.names)+"))")+")"))
		if f := g.Funcs[1]; f.Name != "main.1" && f.Name != "main.2" || len(f.Params) != x.takes || f.Params[0] != "globals" {
			t.Error(x, f.Name, f.Params)
		}
	}
	// To name what is packed takes no step.
	g := generated(t, read(t, "(def f x x) (def main "+lets(61, "(f (let ((b a0) (c a60)) (f (f c b "+called(61)+"))))")+")"))
	if got := text(g); strings.Count(got, "main.1(a59 pack) v = Fmain.2/2 a59 pack; v.1 = call f v; ret v.1") != 1 {
		t.Error(got)
	}
	// A call with as many arguments as a node may have, and with one more.
	for _, n := range []int{59, 60} {
		g := generated(t, read(t, "(def one 1) (def id x x) (def f"+row(n, "a?")+" one) (def main (let ((y 1)) (id (f"+strings.Repeat(" y", n)+"))))"))
		if is := strings.Contains(text(g), "Ff/60 globals"); is != (n == 59) {
			t.Error(n, text(g))
		}
	}
	// As many alternatives as a step may have.
	for n, cases := range map[int]int{2: 1, 59: 1, 60: 2} {
		if got := strings.Count(text(generated(t, read(t, "(def main (case 1"+row(n, "(? 1)")+"))"))), "case"); got != cases {
			t.Error(n, got)
		}
	}
}
