package infer_test

import (
	"errors"
	"reflect"
	"strings"
	"testing"

	"gristmill/api"
	"gristmill/infer"
	"gristmill/syn"
	"gristmill/types"
)

func read(t *testing.T, s string) api.Program {
	t.Helper()
	p, err := syn.Parse(s)
	if err != nil {
		t.Fatalf("%.300q: %v", s, err)
	}
	return p
}

// readExpr is the expression of the text.
func readExpr(t *testing.T, s string) api.Expr {
	t.Helper()
	return read(t, "(def e "+s+")").Defs[0].Body
}

// textsOf is the Text of each of the types.
func textsOf(l []api.Type) (out []string) {
	for _, x := range l {
		out = append(out, types.Text(x))
	}
	return out
}

// argsOf is the Args of each of the types and of all in them: as many as there are types.
func argsOf(l ...api.Type) (out [][]api.Type) {
	for _, t := range l {
		out = append(append(out, t.Args), argsOf(t.Args...)...)
	}
	return out
}

const lists = "(data L a (C a (L a)) N) (data P a b (P a b)) "

// ofSize has what sized needs, and same, of which both arguments have one type.
const ofSize = lists + "(def q x (P x x)) (def l x (C x N)) (def same x y (case 1 (1 x) (_ y))) "

// sized is an expression with a type of n types.
func sized(n int) string { return sizedOf(n, "1") }

// sizedOf is one that is made of the leaf, an expression whose type has no others in it.
func sizedOf(n int, leaf string) string {
	switch {
	case n == 1:
		return leaf
	case n%2 == 0:
		return "(l " + sizedOf(n-1, leaf) + ")"
	}
	return "(q " + sizedOf(n/2, leaf) + ")"
}

// wantTypes holds what Types answers: the Texts, with a comma between any two.
func wantTypes(t *testing.T, s, want string) {
	t.Helper()
	l, err := infer.Types(read(t, s))
	if got := strings.Join(textsOf(l), ", "); got != want || err != nil {
		t.Errorf("%.300q: %.300q, %v; want %.300q", s, got, err, want)
	}
}

// wantNoTypes holds that Types tells ErrType at the place of a definition.
func wantNoTypes(t *testing.T, place int, l ...string) {
	t.Helper()
	for _, s := range l {
		got, err := infer.Types(read(t, s))
		at, _ := err.(*api.At)
		if at == nil || *at != (api.At{Pos: place, Err: api.ErrType}) || !errors.Is(err, api.ErrType) || len(got) > 0 {
			t.Errorf("%.300q: %.300q, %v; want %d: %v", s, textsOf(got), err, place, api.ErrType)
		}
	}
}

// around has definitions and data for the expressions of the tests.
const around = lists + "(data B T F) (data W (W (-> Int Int) Float)) (data E a b (E (-> a (P b a)))) (def k x y x) (def i x x) (def main 1)"

// wantExpr holds what Expr answers, and that Types answers the same of a definition.
func wantExpr(t *testing.T, e, want string) {
	t.Helper()
	p := read(t, around+" (def f "+e+")")
	got, err := infer.Expr(read(t, around), p.Defs[3].Body)
	if types.Text(got) != want || err != nil {
		t.Errorf("%.300q: %.300q, %v; want %.300q", e, types.Text(got), err, want)
	}
	l, err := infer.Types(p)
	if len(l) != 4 || types.Text(l[3]) != want || err != nil {
		t.Errorf("%.300q: %.300q, %v; want %.300q", e, textsOf(l), err, want)
	}
}

// wantNone holds that the expressions have no type, alone and as definitions.
func wantNone(t *testing.T, l ...string) {
	t.Helper()
	for _, e := range l {
		wantNoTypes(t, 3, around+" (def f "+e+")")
		wantNoTypes(t, 0, "(def main "+e+")"+strings.Replace(around, "(def main 1)", "", 1))
		got, err := infer.Expr(read(t, around), readExpr(t, e))
		if !reflect.DeepEqual(got, api.Type{}) || err != api.ErrType {
			t.Errorf("%.300q: %.300q, %v; want %v", e, types.Text(got), err, api.ErrType)
		}
	}
}

func TestTypes(t *testing.T) {
	for _, x := range []struct{ s, want string }{
		{"(def main 1)", "Int"}, {"(def main (fn (x) x))", "(-> a a)"}, {"(def main main)", "a"},
		{"(def k x y x) (def main (k 1 1p0))", "(-> a (-> b a)), Int"}, {"(def main (k 1 1p0)) (def k x y x)", "Int, (-> a (-> b a))"},
		{"(def s f g x (f x (g x))) (def main (fn (x) x))", "(-> (-> a (-> b c)) (-> (-> a b) (-> a c))), (-> a a)"},
		{lists + "(def map f l (case l (N N) ((C x y) (C (f x) (map f y))))) (def main (map (fn (x) (< x 1)) N))", "(-> (-> a b) (-> (L a) (L b))), (L Int)"},
		{lists + "(def fold f z l (case l (N z) ((C x y) (f x (fold f z y))))) (def append l m (fold C m l)) (def flat (fold append N)) (def main (fold (fn (x y) (+ x y)) 0))", "(-> (-> a (-> b b)) (-> b (-> (L a) b))), (-> (L a) (-> (L a) (L a))), (-> (L (L a)) (L a)), (-> (L Int) Int)"},
		// Names of variables: each definition's from a on.
		{"(def f x y z 1) (def g x y (f y x y)) (def main g)", "(-> a (-> b (-> c Int))), (-> a (-> b Int)), (-> a (-> b Int))"},
		{"(def main (fn (a b c d e f g h i j k l m n o p q r s t u v w x y z za zb) (k zb)))", "(-> a (-> b (-> c (-> d (-> e (-> f (-> g (-> h (-> i (-> j (-> (-> k l) (-> m (-> n (-> o (-> p (-> q (-> r (-> s (-> t (-> u (-> v (-> w (-> x (-> y (-> z (-> a1 (-> b1 (-> k l))))))))))))))))))))))))))))"},
	} {
		wantTypes(t, x.s, x.want)
	}
}

// In a group each definition has one type, behind it a general one.
func TestGroups(t *testing.T) {
	for _, x := range []struct{ s, want string }{
		{"(def f x (f x)) (def main (f 1))", "(-> a b), a"}, {"(def f x (g x)) (def g x (f x)) (def main 1)", "(-> a b), (-> a b), Int"}, {"(def f g) (def g f) (def main 1)", "a, a, Int"},
		{"(def a x (b x)) (def b x (c x)) (def c x (seq (a x) 1)) (def main (+ (b 1p0) (b 1)))", "(-> a Int), (-> a Int), (-> a Int), Int"},
		{lists + "(def even l (case l (N 1) ((C x y) (odd y)))) (def odd l (case l (N 0) ((C x y) (even y)))) (def main (+ (even (C 1 N)) (odd (C 1p0 N))))", "(-> (L a) Int), (-> (L a) Int), Int"},
		{lists + "(def f x y (P x (g y))) (def g x (case (f x x) ((P a b) 1p0))) (def main (P (f 1 2) (f N N)))", "(-> a (-> a (P a Float))), (-> a Float), (P (P Int Float) (P (L a) Float))"},
		// What one of them uses of another one is of the one type; what a later group uses is not.
		{lists + "(def f x (case (g x) (_ x))) (def g x (f x)) (def main (P (f 1) (g 1p0)))", "(-> a a), (-> a a), (P Int Float)"},
		{lists + "(def p (P i i)) (def i x x) (def main (case p ((P f g) (P (f 1) (g N)))))", "(P (-> a a) (-> b b)), (-> a a), (P Int (L a))"},
		// A parameter of a definition's name is no use of it.
		{"(def f g (g 1)) (def g f (f 1)) (def main (f (fn (x) x)))", "(-> (-> Int a) a), (-> (-> Int a) a), Int"},
	} {
		wantTypes(t, x.s, x.want)
	}
	wantNoTypes(t, 0, "(def f f (f f 1)) (def main 1)", lists+"(def f x (P (f 1) (f 1p0))) (def main 1)", lists+"(def f x (case 1 (1 x) (_ (f (C x N))))) (def main 1)", "(def f x (f 1 x)) (def main 1)")
	wantNoTypes(t, 1, lists+"(def f x (g 1)) (def g x (seq (f x) (f 1p0))) (def main 1)", lists+"(def f x (g (g x))) (def g x (C (f x) N)) (def main 1)")
}

func TestNames(t *testing.T) {
	for _, x := range []struct{ e, want string }{
		{"(fn (x) x)", "(-> a a)"}, {"(fn (x y) x)", "(-> a (-> b a))"}, {"(fn (x y) y)", "(-> a (-> b b))"}, {"(fn (x) (fn (x) x))", "(-> a (-> b b))"}, {"(fn (x) (fn (y) x))", "(-> a (-> b a))"},
		// Hidden by what is bound further in, and there again behind it.
		{"(fn (k) (k 1))", "(-> (-> Int a) a)"}, {"(fn (x) (P ((fn (x) (+ x 1)) 2) (f+ x 1p0)))", "(-> Float (P Int Float))"}, {"(fn (x) (P (let ((x 1)) x) (f+ x 1p0)))", "(-> Float (P Int Float))"},
		{"(fn (x y) (P (case y ((C x z) (+ x 1)) (_ 2)) (f+ x 1p0)))", "(-> Float (-> (L Int) (P Int Float)))"}, {"(fn (x) (case (f+ x 1p0) (_ (let ((x x) (main x)) main))))", "(-> Float a)"},
		{"(let ((i 1)) (P i (let ((i k)) i)))", "(P Int (-> a (-> b a)))"}, {"(P (fn (main) main) main)", "(P (-> a a) Int)"},
		// A name that is bound by a Fn or an Alt has one type.
		{"(fn (x) (P x x))", "(-> a (P a a))"}, {"(fn (f) (f (f 1)))", "(-> (-> Int Int) Int)"}, {"(fn (f x) (f (f x)))", "(-> (-> a a) (-> a a))"}, {"(fn (z) (case z ((P x y) (x y))))", "(-> (P (-> a b) a) b)"},
		// Of a definition each use is one of its own.
		{"(P (i 1) (i N))", "(P Int (L a))"}, {"(i i)", "(-> a a)"}, {"(i i i 1)", "Int"}, {"(k k 1)", "(-> a (-> b a))"}, {"(k 1 k)", "Int"}, {"(P k k)", "(P (-> a (-> b a)) (-> c (-> d c)))"},
	} {
		wantExpr(t, x.e, x.want)
	}
	wantNone(t, "(fn (x) (P (+ x 1) (f+ x 1p0)))", "(fn (i) (P (i 1) (i N)))", "(fn (x) (x x))", "(fn (z) (case z ((P x y) (P (x y) (y x)))))", "(fn (z) (case z ((P x y) (P (+ x 1) (x 1)))))", "(main 1)", "((i main) 1)")
}

func TestNumbersAndFails(t *testing.T) {
	for _, x := range []struct{ e, want string }{
		{"0", "Int"}, {"-9223372036854775808", "Int"}, {"1p0", "Float"}, {"-3p-1", "Float"}, {"inf", "Float"}, {"nan", "Float"}, {"0p0", "Float"},
		{"(fail 0)", "a"}, {"(fail 2147483647)", "a"}, {"(+ (fail 1) 1)", "Int"}, {"((fail 1) 1)", "a"}, {"(P (fail 1) (fail 1))", "(P a b)"}, {"(fn (x) (fail 1))", "(-> a b)"}, {"(case (fail 1) ((C x y) x))", "a"},
	} {
		wantExpr(t, x.e, x.want)
	}
	wantNone(t, "(1 2)", "(1p0 2)", "(+ 1p0 1)", "(f+ 1 1p0)", "(+ (fail 1) 1p0)")
}

func TestConstructors(t *testing.T) {
	for _, x := range []struct{ e, want string }{
		{"N", "(L a)"}, {"T", "B"}, {"C", "(-> a (-> (L a) (L a)))"}, {"(C 1)", "(-> (L Int) (L Int))"}, {"(C 1 N)", "(L Int)"}, {"(C N N)", "(L (L a))"}, {"(P T)", "(-> a (P B a))"}, {"W", "(-> (-> Int Int) (-> Float W))"}, {"E", "(-> (-> a (P b a)) (E a b))"},
		{"(E (P 1))", "(E a Int)"}, {"(C C N)", "(L (-> a (-> (L a) (L a))))"}, {"(P C C)", "(P (-> a (-> (L a) (L a))) (-> b (-> (L b) (L b))))"}, {"(W i)", "(-> Float W)"}, {"(P N N)", "(P (L a) (L b))"},
	} {
		wantExpr(t, x.e, x.want)
	}
	wantNone(t, "(N 1)", "(T T)", "(C 1 1)", "(C 1 N N)", "(C 1 (C 1p0 N))", "(C N (C 1 N))", "(W 1)", "(W i 1)", "(W (fn (x) 1p0))", "(E (fn (x) x))", "(E C)", "(P 1 2 3)", "(+ N 1)")
}

func TestApp(t *testing.T) {
	for _, x := range []struct{ e, want string }{
		{"((fn (x) x) 1)", "Int"}, {"((fn (x y) x) 1)", "(-> a Int)"}, {"((fn (x y) x) 1 1p0)", "Int"}, {"(i k 1 1p0)", "Int"}, {"(fn (f) (f 1))", "(-> (-> Int a) a)"}, {"(fn (f) (f 1 1p0))", "(-> (-> Int (-> Float a)) a)"},
		{"(fn (f g x) (f (g x)))", "(-> (-> a b) (-> (-> c a) (-> c b)))"}, {"(fn (f x y) (f y x))", "(-> (-> a (-> b c)) (-> b (-> a c)))"}, {"(fn (f) (fn (x) (f x x)))", "(-> (-> a (-> a b)) (-> a b))"}, {"((k i) 1 2)", "Int"},
	} {
		wantExpr(t, x.e, x.want)
	}
	wantNone(t, "((fn (x) (+ x 1)) 1p0)", "((fn (x y) (+ x y)) 1 N)", "(k 1 2 3)", "(i 1 2)", "((fn (x) x) 1 2)", "(fn (f) (P (f 1) (f 1 2) (f 1p0)))", "(fn (x) (x 1 x))", "(fn (f x) (f (x f) (f x)))", "(fn (f) (f f))")
}

func TestFn(t *testing.T) {
	for _, x := range []struct{ e, want string }{
		{"(fn (x) 1)", "(-> a Int)"}, {"(fn (x y z) (P z x))", "(-> a (-> b (-> c (P c a))))"}, {"(fn (x) (fn (y) (+ x (whole y))))", "(-> Int (-> Float Int))"}, {"(fn (f) (W f 1p0))", "(-> (-> Int Int) W)"},
	} {
		wantExpr(t, x.e, x.want)
	}
	wantNone(t, "(+ (fn (x) x) 1)", "(case (fn (x) 1) (1 1))", "(case (fn (x) N) (N 1))")
}

func TestPrims(t *testing.T) {
	for _, x := range []struct{ e, want string }{
		{"(+ 1 2)", "Int"}, {"(fn (x y) (div x y))", "(-> Int (-> Int Int))"}, {"(fn (x y) (f/ x y))", "(-> Float (-> Float Float))"}, {"(fn (x y) (f< x y))", "(-> Float (-> Float Int))"}, {"(fn (x) (float x))", "(-> Int Float)"}, {"(fn (x) (whole x))", "(-> Float Int)"},
		{"(fn (x y) (seq x y))", "(-> a (-> b b))"}, {"(fn (x) (seq x x))", "(-> a a)"}, {"(P (seq 1p0 2) (seq 2 1p0))", "(P Int Float)"}, {"(fn (x) (= (whole x) (f= x x)))", "(-> Float Int)"},
	} {
		wantExpr(t, x.e, x.want)
	}
	wantNone(t, "(+ 1 N)", "(< 1p0 1p1)", "(f< 1 2)", "(float 1p0)", "(whole 1)", "(f+ 1p0 (f= 1p0 1p0))", "((+ 1 2) 3)", "(fn (x) (+ x (float x)))", "(seq (+ 1 1p0) 1)", "(seq 1 (+ 1 1p0))")
}

func TestLet(t *testing.T) {
	for _, x := range []struct{ e, want string }{
		{"(let ((x 1)) x)", "Int"}, {"(let ((x x)) x)", "a"}, {"(let ((x y) (y x)) (P x y))", "(P a b)"},
		// In what it is all in its names are general.
		{"(let ((f (fn (x) x))) (P (f 1) (f 1p0)))", "(P Int Float)"}, {"(let ((f (fn (x) x))) (f f))", "(-> a a)"}, {"(let ((f k) (g N)) (P (f 1 g) (C 1p0 g)))", "(P Int (L Float))"}, {"(let ((f (fn (x) x))) (let ((g f)) (P (g 1) (g N))))", "(P Int (L a))"},
		{"(let ((f (fn (x) (g x))) (g (fn (x) (f x)))) (P (f 1) (g N)))", "(P a b)"}, {"(let ((x N)) x)", "(L a)"}, {"(let ((x N)) (P x x))", "(P (L a) (L b))"}, {"(let ((f (fn (x) x)) (g (fn (x) x))) (P (f 1) (g N)))", "(P Int (L a))"},
		// In its parts they are not, also in those behind a name's own.
		{"(let ((f (fn (x) x)) (g (f 1))) (P f g))", "(P (-> Int Int) Int)"}, {"(let ((g (f 1)) (f (fn (x) x))) (P f g))", "(P (-> Int Int) Int)"}, {"(let ((len (fn (l) (case l (N 0) ((C x y) (+ 1 (len y))))))) (P len len))", "(P (-> (L a) Int) (-> (L b) Int))"},
		// But for the variables that a name has which is bound around it.
		{"(fn (x) (let ((y x)) y))", "(-> a a)"}, {"(fn (x) (let ((f (fn (y) x))) (P (f 1) (f N))))", "(-> a (P a a))"}, {"(fn (x) (let ((f (fn (y) (P x y)))) (P (f 1) (f N))))", "(-> a (P (P a Int) (P a (L b))))"}, {"(fn (x) (let ((y (P x (fn (z) z)))) (case y ((P a f) (P (f a) 1)))))", "(-> a (P a Int))"},
		{"(fn (x) (let ((y (C x N)) (f (fn (z) (+ x 1)))) (P y (f y))))", "(-> Int (P (L Int) Int))"}, {"(fn (x) (case x ((C h r) (let ((y h)) (P y (+ y 1)))) (_ (fail 1))))", "(-> (L Int) (P Int Int))"}, {"(fn (f x) (let ((y (f x))) (P y (+ y 1))))", "(-> (-> a Int) (-> a (P Int Int)))"},
		{"(let ((f (fn (x) (let ((g (fn (y) (P x y)))) (P (g 1) (g N)))))) (P (f 1) (f 1p0)))", "(P (P (P Int Int) (P Int (L a))) (P (P Float Int) (P Float (L b))))"},
		{"(let ((f (let ((g (fn (y) y))) (fn (x) (g x))))) (P (f 1) (f N)))", "(P Int (L a))"}, {"(fn (x) (let ((f (let ((g (fn (y) (P x y)))) g))) (P (f 1) (f N))))", "(-> a (P (P a Int) (P a (L b))))"},
		// A name of a Let further out, in whose part this one is, is bound around it too.
		{"(let ((x (fn (z) (let ((y (fn (w) (x w)))) (seq (y 1) 2))))) x)", "(-> Int Int)"},
	} {
		wantExpr(t, x.e, x.want)
	}
	wantNone(t, "(let ((x (fn (y) (y x)))) (x x))", "(let ((x (let ((y x)) (C y N)))) 1)", "(let ((f (fn (z) (let ((g f)) (P (g 1) (g 2)))))) f)", "(let ((f (fn (x) x)) (g (P (f 1) (f N)))) g)", "(let ((g (P (f 1) (f N))) (f (fn (x) x))) g)", "(fn (x) (let ((y x)) (P (+ y 1) (f+ y 1p0))))", "(fn (f) (let ((g f)) (P (g 1) (g N))))", "(fn (f) (let ((g (fn (x) (f x)))) (P (g 1) (g N))))",
		"(let ((f (fn (x) (f f)))) 1)", "(let ((x (C x x))) 1)", "(let ((x (+ 1 N)) (y 1)) y)", "(let ((y 1) (x (+ 1 N))) y)", "(let ((x 1)) (+ x N))", "(fn (x) (case x ((C h r) (let ((y h)) (P (+ y 1) (f+ y 1p0))))))",
		"(let ((x (fn (z) (let ((y (fn (w) (x w)))) (P (y 1) (y N)))))) 1)", "(fn (x) (let ((f (let ((g (fn (y) x))) g))) (P (+ (f 1) 1) (f+ (f 1) 1p0))))")
}

// No variable that a definition of the group under way has is general in a Let of it.
func TestLetInAGroup(t *testing.T) {
	wantNoTypes(t, 0, lists+"(def f x (let ((g (fn (z) (f z)))) (P (g 1) (g N)))) (def main 1)", lists+"(def f x (let ((g f)) (P (g 1) (g N)))) (def main 1)", lists+"(def f x (let ((y (g x))) (P (+ y 1) (f+ y 1p0)))) (def g x (seq (f 1) x)) (def main 1)")
	wantNoTypes(t, 1, lists+"(def f x (g x)) (def g x (let ((h (fn (z) (f z)))) (P (h 1) (h N)))) (def main 1)")
	// Of an elder group it is.
	wantTypes(t, lists+"(def f x (f x)) (def main (let ((g (fn (z) (f z)))) (P (g 1) (g N))))", "(-> a b), (P a b)")
	wantTypes(t, "(def f x (let ((g (fn (z) z))) (g f (g x)))) (def main 1)", "(-> a b), Int")
}

func TestCase(t *testing.T) {
	for _, x := range []struct{ e, want string }{
		{"(case 1 (1 1p0))", "Float"}, {"(case 1 (_ 1p0))", "Float"}, {"(case N (_ 1))", "Int"}, {"(case i (_ 1))", "Int"}, {"(fn (x) (case x (1 N)))", "(-> Int (L a))"}, {"(fn (x) (case x (_ N)))", "(-> a (L b))"}, {"(fn (x y) (case x (1 y) (_ y)))", "(-> Int (-> a a))"}, {"(fn (x y) (case x (_ y) (1 y)))", "(-> Int (-> a a))"},
		{"(fn (x) (case x ((C y z) y)))", "(-> (L a) a)"}, {"(fn (x) (case x ((C y z) z)))", "(-> (L a) (L a))"}, {"(fn (x) (case x (N x)))", "(-> (L a) (L a))"}, {"(fn (x) (case x ((W f y) (f (whole y)))))", "(-> W Int)"}, {"(fn (x) (case x ((E f) f)))", "(-> (E a b) (-> a (P b a)))"}, {"(fn (x) (case x (T N) (F N)))", "(-> B (L a))"},
		{"(fn (x) (case x ((C y z) (+ y 1)) ((C y z) 2) (N 3) (N 4) (_ 5)))", "(-> (L Int) Int)"}, {"(fn (x y) (case y (1 x) (_ N)))", "(-> (L a) (-> Int (L a)))"}, {"(fn (x y) (case y (1 N) (_ x)))", "(-> (L a) (-> Int (L a)))"}, {"(fn (x) (case x ((P y z) (case y ((P a b) (P z b))))))", "(-> (P (P a b) c) (P c b))"},
		{"(case (C 1 N) ((C y z) (P y z)))", "(P Int (L Int))"}, {"(fn (x) (case x (N x) (_ (C 1 x))))", "(-> (L Int) (L Int))"},
	} {
		wantExpr(t, x.e, x.want)
	}
	wantNone(t, "(fn (f) (case (f 1) (T (f 2)) (F f)))", "(case 1p0 (1 1))", "(case N (1 1))", "(case 1 (N 1))", "(case N (N 1) ((P x y) 2))", "(case (fail 1) (N 1) ((P x y) 2))", "(case (fail 1) (N 1) (1 2))", "(case (fail 1) (1 2) (T 1))", "(case 1 (1 1) (_ 1p0))", "(case 1 (_ 1) (1 1p0))", "(case N (N 1) (_ N))",
		"(case (C 1 N) ((C x y) (f+ x 1p0)))", "(fn (x) (case x ((C y z) (P (y z) (z y)))))", "(fn (x) (case x ((C y z) (+ y 1)) ((C y z) (whole y))))", "(fn (x) (case x ((C y z) y) (N x)))", "(case (case 1 (1 N)) (T 1))", "(case T (T 1) (F (+ 1 N)))", "(case (+ 1 N) (_ 1))")
}
