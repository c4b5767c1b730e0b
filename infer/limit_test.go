package infer_test

import (
	"strconv"
	"strings"
	"testing"

	"gristmill/api"
	"gristmill/infer"
	"gristmill/types"
)

func TestSized(t *testing.T) {
	for _, n := range []int{1, 2, 3, 100, 1024, 1999, 2000} {
		l, err := infer.Types(read(t, ofSize+"(def main "+sized(n)+")"))
		if err != nil || len(l) != 4 || len(argsOf(l[3])) != n {
			t.Error(n, err)
		}
	}
}

// right is the place of no definition.
const right = -1

// wantMain holds that there are types of ofSize and the definitions, or none with the definition at the place; what is no definition is the body of main. MOST is of as many types as may be, OVER of one more.
func wantMain(t *testing.T, place int, l ...string) {
	t.Helper()
	for _, e := range l {
		s := strings.NewReplacer("MOST", sized(api.MaxType), "OVER", sized(api.MaxType+1)).Replace(e)
		if !strings.Contains(s, "(def main ") {
			s = "(def main " + s + ")"
		}
		if place != right {
			wantNoTypes(t, place, ofSize+s)
		} else if got, err := infer.Types(read(t, ofSize+s)); err != nil || len(got) < 4 {
			t.Errorf("%.300q: %v", s, err)
		}
	}
}

func TestADefinitionAtMaxType(t *testing.T) {
	n := api.MaxType
	wantMain(t, right, "MOST", "(fn (x) "+sized(n-2)+")", "(fn (x y) "+sizedOf(n-4, "y")+")", "(fn (x) (same x "+sized(n/2-1)+"))", "(def f x y "+sized(n-4)+") (def main 1)", "(def f x (same x "+sized(n/2-1)+")) (def main 1)", "(def f MOST) (def g MOST) (def main MOST)")
	wantMain(t, 3, "OVER", "(fn (x) "+sized(n-1)+")", "(fn (x y) "+sizedOf(n-3, "y")+")", "(fn (x) (same x "+sized(n/2)+"))", "(def f x y "+sized(n-3)+") (def main 1)", "(def f x (same x "+sized(n/2)+")) (def main 1)", "(q OVER)", "(l MOST)", "(let ((x 1)) OVER)", "(case OVER (_ OVER))")
	// What is of no definition may be larger.
	wantMain(t, right, "(seq OVER 1)", "(case (q (q (q MOST))) ((P x y) 1))", "((fn (x) 1) OVER)", "(seq (fn (x) (same x OVER)) 1)", "(fn (x) (case (P x OVER) ((P a b) a)))")
	// Constructors too.
	wide := "(T" + strings.Repeat(" a", 60) + ")"
	data := "(data T" + params(60) + ")(data U a (D" + strings.Repeat(" "+wide, 40) + "))"
	wantMain(t, right, data+"(def main (seq D 1))", data+"(def main (seq (D (fail 1)) (case (fail 1) (_ 1))))")
	wantMain(t, 3, data+"(def main D)", data+"(def main (let ((x D)) 1))")
}

// params is n names, each with a space ahead.
func params(n int) (s string) {
	for i := range n {
		s += " p" + strconv.Itoa(i)
	}
	return s
}

// Of a group that is ended it is the last one's place; ahead of that is what has no type.
func TestAGroupAtMaxType(t *testing.T) {
	wantMain(t, 4, "(def f z (seq (g 1) OVER)) (def g z (seq (f 1) 1)) (def main 1)", "(def f z (seq (g 1) 1)) (def g z (seq (f 1) OVER)) (def main 1)", "(def f z (seq (g 1) OVER)) (def g z (f 1)) (def main (1 1))")
	wantMain(t, 5, "(def f z (seq (h 1) OVER)) (def main 1) (def h z (seq (f 1) 1))", "(def f z (seq (g 1) OVER)) (def g z (seq (h 1) 1)) (def h z (seq (f 1) 1)) (def main 1)")
	wantMain(t, 4, "(def f z (seq (h 1) OVER)) (def g z (seq (f 1) (1 1))) (def h z (g 1)) (def main 1)", "(def f z (seq (h 1) OVER)) (def g z (let ((y OVER)) (f 1))) (def h z (g 1)) (def main 1)", "(def f z (seq (h 1) OVER)) (def g z (seq (f 1) (z z))) (def h z (g 1)) (def main 1)")
	// Group by group.
	wantMain(t, 3, "(def f OVER) (def g (1 1)) (def main 1)", "(def f (1 1)) (def g OVER) (def main 1)", "(def f (let ((y OVER)) 1)) (def g OVER) (def main OVER)")
	wantMain(t, 4, "(def f (seq g OVER)) (def g (1 1)) (def main 1)", "(def f (1 g)) (def g OVER) (def main 1)", "(def f (g 1)) (def g (let ((y OVER)) 1)) (def main 1)")
}

func TestALetsNameAtMaxType(t *testing.T) {
	n := api.MaxType
	for _, s := range []string{"?", "(fn (x) ?)", "(let ((w ?)) 1)", "(let ((w 1)) ?)", "(seq (fn (w) ?) 1)", "(case 1 (1 1) (_ ?))", "(+ ? 1)", "(let ((w (fn (v) ?)) (u (w 1))) (+ u 1))"} {
		for _, name := range []string{"(y MOST)", "(y MOST) (z MOST)", "(f (fn (x) " + sizedOf(n-2, "x") + "))", "(f (fn (x y) " + sized(n-4) + ")) (y 1)", "(f (fn (x) (same x " + sized(n/2-1) + ")))"} {
			wantMain(t, right, strings.Replace(s, "?", "(let ("+name+") 1)", 1))
		}
		for _, name := range []string{"(y OVER)", "(y 1) (z OVER)", "(y OVER) (z 1)", "(y 1) (z OVER) (u 1)", "(f (fn (x) " + sizedOf(n-1, "x") + "))", "(f (fn (x y) " + sized(n-3) + ")) (y 1)", "(f (fn (x) (same x " + sized(n/2) + ")))", "(y (let ((z MOST)) (l z)))"} {
			wantMain(t, 3, strings.Replace(s, "?", "(let ("+name+") 1)", 1))
		}
	}
}

// wantOrder holds what is right and what is not in a function of x, x being of any type, of which nothing else is used.
func wantOrder(t *testing.T, place int, l ...string) {
	t.Helper()
	for _, e := range l {
		wantMain(t, place, "(seq (fn (x) "+e+") 1)", "(seq (fn (w) (seq (fn (x) "+e+") w)) 1)")
	}
}

// How large the type of a Let's name is where it becomes general hangs on what was looked at up to there: y is x, which is made too large.
func TestPartsInOrder(t *testing.T) {
	const becomes, large = "(let ((y x)) 1)", "(same x OVER)"
	wantOrder(t, right, becomes, large, "(let ((y x)) "+large+")")
	for _, s := range []string{"((fail 1) A B)", "((fail 1) 1 A 2 B)", "((seq A (fail 1)) B)", "(seq A B)", "(= (seq A 1) (seq B 1))", "((fail 1) (fn (z) A) B)", "((fail 1) (fn (z) A) (fn (z) B))", "((fail 1) (seq A 1) (seq 1 B))", "(let ((z (seq A 1))) B)", "(let ((z (seq A 1))) (seq B 1))", "(let ((z (seq A 1)) (w (seq B 1))) 1)",
		"(case A (_ B))", "(case (seq A 1) (1 B))", "(case 1 (1 (seq A 1)) (_ (seq B 1)))", "(case 1 (1 1) (2 (seq A 1)) (3 1) (_ (seq B 1)))", "(case (fail 1) ((C h r) (seq A 1)) (N (seq B 1)))", "((fail 1) (case 1 (_ A)) B)", "((fail 1) (case A (_ 1)) B)", "((fail 1) (let ((z 1)) A) B)"} {
		wantOrder(t, right, strings.NewReplacer("A", becomes, "B", large).Replace(s))
		wantOrder(t, 3, strings.NewReplacer("A", large, "B", becomes).Replace(s))
	}
	// Each ahead of what has it.
	wantOrder(t, right, "(same x (seq "+becomes+" OVER))", "(same OVER (let ((y x)) x))", "((fn (z) (same x z)) (seq "+becomes+" OVER))", "(same (seq "+becomes+" x) OVER)", "(case OVER (_ "+becomes+"))")
	wantOrder(t, 3, "((fail 1) (same OVER x) "+becomes+")", "(seq (same x (same x OVER)) "+becomes+")", "(same x (seq "+large+" (let ((y x)) x)))")
}

func TestALetInOrder(t *testing.T) {
	half := sized(api.MaxType - 500)
	wantOrder(t, 3, "(let ((a "+half+") (b (let ((c (P a a))) 1))) 1)", "(let ((z 1) (a "+half+") (b (let ((c (P a a))) 1))) 1)", "(let ((a "+half+")) (let ((b (P a a))) 1))")
	wantOrder(t, right, "(let ((b (let ((c (P a a))) 1)) (a "+half+")) 1)", "(let ((a (seq (let ((c (P a a))) 1) "+half+"))) 1)", "(let ((a "+half+")) (seq (P a a) 1))")
	// All of its names become general behind the last part, also one that is made larger by a part behind its own.
	wantOrder(t, 3, "(let ((a x) (b (seq (same x OVER) 1))) 1)", "(let ((b (seq (same x OVER) 1)) (a x)) 1)", "(let ((a x) (b 1) (c (seq (same a OVER) 1))) 1)")
	wantOrder(t, right, "(let ((a x) (b 1)) (same x OVER))", "(let ((a x) (b 1)) (same a OVER))")
}

func TestACaseInOrder(t *testing.T) {
	// The type of each E is made that of the Case before the next one.
	wantOrder(t, 3, "(case 1 (1 x) (2 OVER) (_ (let ((y x)) OVER)))", "(case 1 (1 OVER) (2 x) (_ (let ((y x)) OVER)))", "(case 1 (1 OVER) (2 (fail 1)) (3 x) (_ (let ((y x)) (fail 1))))")
	wantOrder(t, right, "(case 1 (1 x) (2 (let ((y x)) OVER)))", "(case 1 (1 OVER) (2 (let ((y x)) x)))", "(case 1 (1 x) (2 (fail 1)) (_ (let ((y x)) OVER)))")
	// What it is about is made of the type of the Alts behind all of them.
	wantOrder(t, right, "(case (l OVER) ((C h r) (let ((y h)) 1)))", "(case x ((C h r) (seq (same h OVER) (let ((y x)) 1))))", "(case (l OVER) (N 1) ((C h r) (let ((y r)) 1)))", "(case (fail 1) ((C h r) (seq (same h OVER) 1)) ((C h r) (let ((y h)) 1)))")
	wantOrder(t, 3, "(case (l OVER) ((C h r) (seq (same h OVER) (let ((y h)) 1))))", "((fail 1) (case x ((C h r) (same h OVER))) (let ((y x)) 1))", "((fail 1) (case (C x N) ((C h r) (same h OVER))) (let ((y x)) 1))", "(case (fail 1) ((C h r) (seq (same h OVER) (let ((y r)) 1))))")
}

// A definition's type is made that of its parts behind them, and before the next one of the group is looked at.
func TestDefinitionsInOrder(t *testing.T) {
	half := sized(api.MaxType - 500)
	wantMain(t, right, "(def f z (seq (let ((y (P f f))) 1) "+half+")) (def main 1)", "(def f z (seq (same z "+half+") (let ((y (P f f))) 1))) (def main 1)", "(def g z (seq (let ((y (P f f))) 1) (f 1))) (def f z (seq (g 1) "+half+")) (def main 1)")
	wantMain(t, 4, "(def f z (seq (g 1) "+half+")) (def g z (seq (let ((y (P f f))) 1) (f 1))) (def main 1)", "(def f z (seq (same z "+half+") (g 1))) (def g z (seq (let ((y (P f f))) 1) 1)) (def main (f (fail 1)))")
}

// doubled is a type of twice as many types n times, of an expression.
func doubled(n int, e string) string {
	return strings.Repeat("((fn (x) (P x x)) ", n) + e + strings.Repeat(")", n)
}

// Types that are far too large to be written out, in what is right beside and in what is not.
func TestTypesOfAnySize(t *testing.T) {
	one, other, less := doubled(90, "1"), doubled(90, "1p0"), doubled(89, "1")
	wantMain(t, right, "(seq "+one+" 1)", "(seq (same "+one+" "+one+") 1)", "(case "+one+" ((P x y) (case x ((P x y) 1))))", "(seq (fn (x) (seq (same x "+one+") (let ((y 1)) y))) 1)", "(case 1 (1 1) (_ (seq "+other+" (seq "+one+" 1))))", "(seq (fn (x) (let ((y (seq (fn (z) (same x "+doubled(80, "z")+")) 1))) y)) 1)",
		"(seq (fn (x y) (same (same x "+doubled(80, "y")+") (same x "+doubled(80, "y")+"))) 1)", "(seq (fn (x y) (same (same x "+doubled(80, "y")+") (same x "+doubled(80, "1")+"))) 1)", "(fn (w) (seq (fn (x y) (let ((a (seq (same x "+doubled(80, "y")+") 1))) (same y w))) w))")
	wantMain(t, 3, one, "(fn (x) "+doubled(90, "x")+")", "(let ((y "+one+")) 1)", "(seq (same "+one+" "+other+") 1)", "(seq (same "+one+" "+less+") 1)", "(seq (fn (x) (same x "+doubled(90, "x")+")) 1)", "(seq (fn (x y) (same (same x "+doubled(80, "y")+") (same y "+doubled(80, "x")+"))) 1)", "(let ((y (seq (fn (x) (same x "+doubled(90, "x")+")) 1))) 1)", "(seq (+ 1 "+one+") 1)")
	// Each twice as great as the one ahead, by general types.
	s := ""
	for i := range 12 {
		s += "(def d" + string(rune('b'+i)) + " x (P (d" + string(rune('a'+i)) + " x) (d" + string(rune('a'+i)) + " x)))"
	}
	wantMain(t, 13, "(def da x x)"+s+"(def main 1)")
	wantMain(t, 3, "(let ((a (fn (x) (P x x)))) (let ((b (fn (x) (a (a (a (a x))))))) (let ((c (fn (x) (b (b (b x)))))) 1)))")
	wantMain(t, right, "(let ((a (fn (x) (P x x)))) (let ((b (fn (x) (a (a (a (a x))))))) (let ((c (fn (x) (b (b x))))) (seq (c (c 1)) 1))))")
}

// Many uses of one type, each of its own.
func TestManyUses(t *testing.T) {
	row := "(W" + strings.Repeat(" (C 1 N)", 30) + strings.Repeat(" (C 1p0 N)", 30) + ")"
	data := "(data W" + params(60) + " (W" + params(60) + "))"
	l, err := infer.Types(read(t, lists+data+"(def f "+row+") (def main (case 1"+strings.Repeat(" (1 "+row+")", 50)+" (_ f)))"))
	want := "(W" + strings.Repeat(" (L Int)", 30) + strings.Repeat(" (L Float)", 30) + ")"
	if err != nil || len(l) != 2 || types.Text(l[0]) != want || types.Text(l[1]) != want {
		t.Error(textsOf(l), err)
	}
	wantNoTypes(t, 1, lists+data+"(def f "+row+") (def main (case 1"+strings.Repeat(" (1 "+row+")", 50)+" (_ "+strings.Replace(row, "(C 1 N)", "(C 1p0 N)", 1)+")))")
}
