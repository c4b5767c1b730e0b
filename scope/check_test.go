package scope_test

import (
	"errors"
	"fmt"
	"math"
	"reflect"
	"strings"
	"testing"

	"gristmill/api"
	"gristmill/scope"
	"gristmill/syn"
)

func read(t *testing.T, s string) api.Program {
	t.Helper()
	p, err := syn.Parse(s)
	if err != nil {
		t.Fatalf("%.300q: %v", s, err)
	}
	return p
}

// bare is the place of an error without one.
const bare = -1

// wantError holds what Check tells of each text against an At around want; against want alone, if place is bare.
func wantError(t *testing.T, place int, want error, l ...string) {
	t.Helper()
	for _, s := range l {
		err := scope.Check(read(t, s))
		at, _ := err.(*api.At)
		if (at != nil) != (place != bare) || at != nil && *at != (api.At{Pos: place, Err: want}) || at == nil && err != want {
			t.Errorf("%.300q: %v; want %d: %v", s, err, place, want)
		}
	}
}

func wantRight(t *testing.T, l ...string) {
	t.Helper()
	wantError(t, bare, nil, l...)
}

func TestRightPrograms(t *testing.T) {
	wantRight(t,
		"(def main 1)", "(def main main)", "(def main 3p0) (def f x x)", "(def f x 1) (def main (f 2))", "(def main (fail 0))",
		"(data T) (data U) (def main 1)", "(data T A B C) (def main (A B C))",
		"(data List a (Cons a (List a)) Nil) (def map f l (case l (Nil Nil) ((Cons x r) (Cons (f x) (map f r))))) (def main (map (fn (x) (+ x 1)) (Cons 1 Nil)))")
}

func TestErrMain(t *testing.T) {
	wantError(t, bare, api.ErrMain, "", "(data T)", "(def f 1)", "(def main x 1)", "(def main x y (main x y))", "(data Main Main)", "(def mains 1) (def main_ 2)", "(def f main main) (def g (let ((main 1)) main))")
	wantRight(t, "(def f 1) (def main 2) (def g 3)", "(def f main main) (def main (f 1))")
	// Whatever else is wrong comes ahead of it.
	wantError(t, 0, api.ErrNone, "(def f x)", "(def main x y)", "(data T (C a))")
	wantError(t, 0, api.ErrTwice, "(data Int)", "(def main x x 1)")
	wantError(t, 0, api.ErrArity, "(data T (C (T Int)))")
	wantError(t, 1, api.ErrTwice, "(def main x 1) (def main 1)", "(def main 1) (def main x 1)")
}

func TestDataTwice(t *testing.T) {
	wantError(t, 0, api.ErrTwice, "(data Int) (def main 1)", "(data Float) (def main 1)", "(data Int a (C a)) (def main 1)", "(data Float) (data T) (data T)", "(data Int) (data Float)")
	wantError(t, 1, api.ErrTwice, "(data T) (data Int)", "(data T) (data T)", "(data T) (data T a)", "(data T A) (data T B)", "(data T) (data T) (data T)")
	wantError(t, 2, api.ErrTwice, "(data T) (data U) (data T)", "(data T) (data U) (data U)", "(def main 1) (data T) (data U) (data Float)")
	wantRight(t, "(data Ints) (data I) (data Floats) (data FLOAT) (data INT) (def main 1)", "(data Tt) (data T) (data TT) (def main 1)")
}

func TestParameterOfADataTwice(t *testing.T) {
	wantError(t, 0, api.ErrTwice, "(data T a a)", "(data T a b a)", "(data T b a a)", "(data T a b c d e f b)", "(data T a a (C a))")
	wantError(t, 1, api.ErrTwice, "(data T a) (data U a a)")
	wantRight(t, "(data T a b) (data U b a) (def main 1)", "(data T a b (C a a) (D b a b a)) (def main 1)", "(data T a aa aA a_ (C a)) (def main 1)")
	// As many as there may be.
	sixty := ""
	for i := range 60 {
		sixty += fmt.Sprint(" a", i)
	}
	wantRight(t, "(data T"+sixty+") (def main 1)", "(def f"+sixty+" a59) (def main (fn ("+sixty+") a59))")
	wantError(t, 0, api.ErrTwice, "(data T"+strings.Replace(sixty, "a59", "a0", 1)+")", "(def f"+strings.Replace(sixty, "a59", "a58", 1)+" 1)")
}

func TestConstructorTwice(t *testing.T) {
	wantError(t, 0, api.ErrTwice, "(data T C C)", "(data T C D C)", "(data T D C C)", "(data T C (C Int))", "(data T (C Int) C)", "(data T (C Int) (C Int))", "(data T C D E F D)")
	wantError(t, 1, api.ErrTwice, "(data T C) (data U C)", "(data T A B) (data U C B)", "(data T A B) (data U A)", "(data T C) (data U (C Int))", "(data T (C Int)) (data U a (C a))", "(data T C) (data U D D)")
	wantError(t, 2, api.ErrTwice, "(data T C) (data U D) (data V E C)", "(data T C) (data U D) (data V E D)")
	// A type and a constructor may have one name.
	wantRight(t, "(data T T) (def main T)", "(data T U) (data U T) (def main (T U))", "(data T Int Float) (def main (case Int (Int Float)))", "(data T (Int Int)) (def main (Int 1))")
}

func TestTypes(t *testing.T) {
	wantRight(t,
		"(data T a b (C a) (D b a)) (def main 1)", "(data T (C Int Float)) (def main 1)", "(data T (C T)) (def main 1)", "(data T (C U)) (data U) (def main 1)", "(data T (C (U Int T))) (data U a b) (def main 1)",
		"(data T a (C (T a) (T (T a)) (T (-> a Int)))) (def main 1)", "(data T (C (-> Int (-> Float T)))) (def main 1)", "(data T a (C (-> (-> a a) a))) (def main 1)")
	wantError(t, 0, api.ErrNone,
		"(data T (C a))", "(data T a (C b))", "(data T a (C a b))", "(data T a C (D b))", "(data T a (C (T b)))", "(data T a (C (-> a b)))", "(data T a (C (-> b a)))", "(data T a (C (T (T (-> Int b)))))",
		"(data T (C U))", "(data T (C Int U))", "(data T (C (U Int)))", "(data T a (C (T U)))", "(data T (C (-> T U)))", "(data T (C (-> U T)))", "(data T (C C)) (data U C_)", "(data T (C INT))", "(data T (C D) D)",
		"(data T (C a)) (data U a)", "(data T (C t) (D T))")
	wantError(t, 1, api.ErrNone, "(data T a) (data U (C a))", "(data T a (C a)) (data U b (D b a))", "(data T) (data U (C V))")
	wantError(t, 0, api.ErrArity,
		"(data T (C (T Int)))", "(data T a (C T))", "(data T a (C (T a a)))", "(data T a b (C (T a)))", "(data T a b (C T))", "(data T a b (C (T a b a)))", "(data T (C (U Int))) (data U)", "(data T (C U)) (data U a)",
		"(data T (C (Int Int)))", "(data T (C (Float Int)))", "(data T (C (Int Int Int)))", "(data T (C (-> (Int T) T)))", "(data T a (C (T T)))", "(data T a (C a (-> a T)))")
	wantError(t, 1, api.ErrArity, "(data T a) (data U (C T))", "(data T a) (data U a (C (T a)) (D (U a)) (E U))")
}

// Type by type: those around ahead of those in them, these ahead of what stands behind.
func TestTheFirstErrorOfTypes(t *testing.T) {
	wantError(t, 0, api.ErrArity,
		"(data T (C (T U)))", "(data T (C (T u)))", "(data T (C (Int U)))", "(data T (C (T U) U))", "(data T a (C (-> T U)))", "(data T a (C (-> (-> T Int) U)))", "(data T a (C (T T) U))", "(data T a (C T) (D U))", "(data T a (C (T (T (T T))) u))", "(data T (C (T Int))) (data V (D U))")
	wantError(t, 0, api.ErrNone,
		"(data T (C (U (T Int))))", "(data T a (C U T))", "(data T a (C (-> U T)))", "(data T a (C (-> (-> b Int) T)))", "(data T a (C (T U) T))", "(data T a (C (T b) T))", "(data T a (C b) (D T))", "(data T (C (U T))) (data V (D (T T)))")
}

// All names of data come ahead of all types.
func TestNamesOfDataComeFirst(t *testing.T) {
	wantError(t, 1, api.ErrTwice, "(data T (C a)) (data T)", "(data T (C (T Int))) (data Int)", "(data T (C U)) (data U a a)", "(data T (C U) D) (data U D)")
	wantError(t, 0, api.ErrTwice, "(data T a a (C b)) (data T)", "(data T (C D) C) (data U (E e))", "(data Int (C (Int Int)))", "(data Float a a (C b) C)")
	wantError(t, 1, api.ErrNone, "(data T (C Int)) (data U (D V)) (data V_ (E (T T)))")
	wantError(t, 2, api.ErrTwice, "(data T (C (U x))) (data U U V) (data U)")
}

// Data come ahead of definitions, whatever stands first in the text.
func TestDataComeFirst(t *testing.T) {
	wantError(t, 0, api.ErrArity, "(def f x x y) (data T (C (T T)))")
	wantError(t, 1, api.ErrTwice, "(def f y) (data T) (def f y) (data T)")
	wantError(t, 1, api.ErrNone, "(def main x) (data T)")
}

func TestDefinitionTwice(t *testing.T) {
	wantError(t, 1, api.ErrTwice, "(def f 1) (def f 2)", "(def f 1) (def f x 2)", "(def f 1) (def f y)", "(def f 1) (def f 1) (def main 1)", "(def main 1) (def main 1)", "(def f 1) (def f 1) (def f 1)")
	wantError(t, 2, api.ErrTwice, "(data T) (def f 1) (def f 2)", "(def f 1) (def g 2) (def f 3)", "(def f 1) (def g 2) (def g 3)")
	wantError(t, 0, api.ErrTwice, "(def f x x 1)", "(def f x y x 1)", "(def f y x x 1)", "(def f x x y)", "(def f x x C)")
	wantError(t, 1, api.ErrTwice, "(def f x 1) (def g y y 1)", "(data T) (def f x x 1)")
	// Definition by definition, each body ahead of the next name.
	wantError(t, 0, api.ErrNone, "(def f y) (def f 1)", "(def f x y) (def g x x 1)", "(def f C) (def f 1)")
	wantRight(t, "(def f f f) (def main (f 1))", "(def f x 1) (def g x 2) (def main 1)", "(def f main 1) (def main main)", "(data T X) (def x 1) (def main X)")
}

// places is the expression at each place where an expression may stand, nothing that it has being bound there.
func places(e string) (l []string) {
	for _, s := range []string{"?", "(f ?)", "(? 1)", "(f 1 ?)", "(fn (v) ?)", "(fn (v w) ?)", "(let ((v ?)) 1)", "(let ((v 1)) ?)", "(let ((v 1) (w ?)) 1)", "(case ? (_ 1))", "(case 1 (_ ?))", "(case 1 (2 1) (3 ?) (_ 1))", "(case 1 ((B v) ?))", "(case 1 ((C v w) v) (A ?))", "(+ ? 1)", "(seq 1 ?)", "(float ?)"} {
		l = append(l, strings.ReplaceAll(s, "?", e))
	}
	return l
}

const ofBodies = "(data T A (B T) (C T Int)) (data U a (D a (U a)))"

// wantBodies holds what Check tells of each expression, at each place, against want around the definition's place.
func wantBodies(t *testing.T, want error, l ...string) {
	t.Helper()
	for _, e := range l {
		for _, around := range places(e) {
			for _, body := range places(around) {
				place := 4
				if want == nil {
					place = bare
				}
				wantError(t, place, want, ofBodies+" (def main 1) (def g 1) (def f a b "+body+")")
			}
		}
	}
}

func TestVar(t *testing.T) {
	wantBodies(t, nil, "a", "b", "f", "g", "main", "(a b f g main)")
	wantBodies(t, api.ErrNone, "x", "t", "aa", "a_", "mainn", "(fn (x) y)", "(f a x)", "(x a)")
	// A definition is known ahead of its place, parameters only in their own definition.
	wantRight(t, "(def main f) (def f g) (def g main)", "(def f x (g x)) (def g x (f x)) (def main (f 1))")
	wantError(t, 1, api.ErrNone, "(def f x x) (def main x)")
	wantError(t, 0, api.ErrNone, "(def main x) (def f x x)")
	wantError(t, 1, api.ErrNone, "(data T a (C a)) (def main a)")
}

func TestCon(t *testing.T) {
	wantBodies(t, nil, "A", "B", "C", "D", "(A 1)", "(C A 1)", "(C A 1 2)", "(C A)", "(B C D)")
	wantBodies(t, api.ErrNone, "T", "U", "Int", "E", "AA", "(E 1)", "(fn (e) E)", "(C A T)")
}

func TestFn(t *testing.T) {
	wantBodies(t, nil, "(fn (x) x)", "(fn (x y) (y x))", "(fn (f g a) (f g a b))", "(fn (x) (fn (x) x))", "(fn (x) (fn (y) (x y)))")
	wantBodies(t, api.ErrTwice, "(fn (x x) 1)", "(fn (x y x) 1)", "(fn (y x x) x)", "(fn (a a) a)", "(fn (x) (fn (y y) x))", "(fn (x x) y)", "(fn (x x) E)", "(fn (x x) (case 1 (A A) ((A z) 1)))")
	// What it binds is bound in it alone.
	wantBodies(t, api.ErrNone, "((fn (x) x) x)", "(x (fn (x) x))", "(+ (fn (x) x) x)", "(f (fn (x) (fn (x) x)) x)", "(fn (x) (f (fn (y) y) y))", "(let ((y (fn (x) x))) x)", "(case (fn (x) x) (_ x))")
}

func TestLet(t *testing.T) {
	wantBodies(t, nil, "(let ((x 1)) x)", "(let ((x x)) x)", "(let ((x y) (y x)) (x y))", "(let ((f a) (a f)) (f a b))", "(let ((x 1)) (let ((x x)) x))", "(let ((x (fn (z) (y z))) (y x)) y)")
	wantBodies(t, api.ErrTwice, "(let ((x 1) (x 2)) x)", "(let ((x 1) (y 2) (x 3)) x)", "(let ((y 1) (x 2) (x 3)) x)", "(let ((x y) (x 2)) 1)", "(let ((x 1) (x E)) z)", "(let ((x (let ((y 1) (y 2)) 1))) 1)", "(let ((x 1)) (let ((y x) (y x)) 1))")
	wantBodies(t, api.ErrNone, "((let ((x 1)) x) x)", "(let ((x y)) x)", "(let ((x 1) (y z)) x)", "(let ((x 1)) y)", "(f (let ((x (let ((y 1)) y))) y))", "(let ((x (let ((y 1)) y)) (z y)) x)", "(case (let ((x 1)) x) (_ x))")
}

func TestAlt(t *testing.T) {
	wantBodies(t, nil, "(case 1 (A 1) ((B x) x) ((C x y) (x y)) ((D x y) y))", "(case 1 ((B x) (case x ((B x) x) ((C y x) y))))", "(case 1 (1 a) (_ b))", "(case 1 ((B x) 1) ((B x) x) (A 1) (A 2) (_ 3) (_ 4) (5 6) (5 6))", "(case 1 ((C a f) (f a)))", "(case 1 (A 1) ((D x y) x))")
	wantBodies(t, api.ErrNone, "(case 1 (E 1))", "(case 1 ((E x) 1))", "(case 1 (T 1))", "(case 1 (A 1) (E 1))", "(case 1 ((E x x) 1))", "(case 1 (E x) (A y))", "(case 1 ((E x x) 1) (B 1))", "(case 1 (Int 1))")
	wantBodies(t, api.ErrArity, "(case 1 (B 1))", "(case 1 (C 1))", "(case 1 ((A x) 1))", "(case 1 ((A x y) 1))", "(case 1 ((B x y) 1))", "(case 1 ((C x) 1))", "(case 1 ((C x y z) 1))", "(case 1 ((B x x) 1))", "(case 1 (A 1) (B y))", "(case 1 ((C x) y))", "(case 1 ((C x) E))", "(case 1 (_ 1) (D 1))", "(case 1 ((C x x x) 1))")
	wantBodies(t, api.ErrTwice, "(case 1 ((C x x) 1))", "(case 1 ((C x x) y))", "(case 1 ((C x x) E))", "(case 1 (A 1) ((D a a) 1))", "(case 1 ((C x x) 1) (E 1))", "(case 1 ((C x x) (case 1 (B 1))))")
	// What it binds is bound in its E alone.
	wantBodies(t, api.ErrNone, "(case 1 ((B x) x) (_ x))", "(case 1 (A x) ((B x) x))", "(case x ((B x) x))", "(f (case 1 ((B x) x)) x)", "(case 1 ((C x y) (x y)) ((B x) y))", "(case 1 (_ x))", "(case 1 (1 x))", "(case 1 (A x))")
}

// Part by part, each ahead of what it has: L, then Alts, each of these ahead of its E.
func TestTheFirstErrorOfBodies(t *testing.T) {
	none, twice, arity := "x", "(fn (y y) 1)", "(case 1 (B 1))"
	for _, s := range []string{"(1 ?)", "(? (fn (z z) x))", "(case ? ((A z) 1))", "(case ? (E 1))", "(case ? ((C z z) x))", "(case 1 (A ?) ((A z) E))", "(case 1 ((C v w) ?) ((C z z) 1))", "(let ((z ?) (w E)) (fn (z z) 1))", "(let ((z 1)) (? (case 1 ((A z) 1))))", "(let ((z ?)) E)", "(fn (z) (? E))", "(+ (f (a ?)) E)", "((f (f ?)) E)"} {
		wantBodies(t, api.ErrNone, strings.Replace(s, "?", none, 1))
		wantBodies(t, api.ErrTwice, strings.Replace(s, "?", twice, 1))
		wantBodies(t, api.ErrArity, strings.Replace(s, "?", arity, 1))
	}
	wantBodies(t, api.ErrTwice, "(fn (y y) x)", "(let ((y x) (y E)) E)", "(case 1 ((C y y) x) (E E))")
	wantBodies(t, api.ErrArity, "(case 1 (B x) (E 1))", "(case 1 ((B y y) x))", "(case 1 (A 1) (B E))")
	// Definition by definition.
	wantError(t, 0, api.ErrNone, "(def f x) (def g y y 1)", "(def f (a E)) (def f a a a) (def main 1)")
	wantError(t, 1, api.ErrNone, "(def f 1) (def g x) (def g y y 1)")
}

// Valid's errors come as they are, ahead of all others.
func TestValidComesFirst(t *testing.T) {
	x := api.Expr{Op: api.Var, Name: "x"}
	same := []api.Data{{Name: "T"}, {Name: "T"}, {Name: "Int", Params: []string{"a", "a"}}}
	for i, c := range []struct {
		p     api.Program
		place int
		want  error
	}{
		{api.Program{Datas: append(same, api.Data{Name: "t"})}, 3, api.ErrName},
		{api.Program{Datas: same, Defs: []api.Def{{Name: "f", Body: x}, {Name: "f"}}}, 4, api.ErrForm},
		{api.Program{Datas: same, Defs: []api.Def{{Name: "f", Params: []string{"x", "x", "X"}, Body: x}}}, 3, api.ErrName},
		{api.Program{Datas: same, Defs: []api.Def{{Name: "F"}}}, 3, api.ErrName},
		{api.Program{Defs: []api.Def{{Name: "main", Body: api.Expr{Op: api.Fn, Names: []string{"y", "y"}, L: []api.Expr{x, x}}}}}, 0, api.ErrForm},
		{api.Program{Defs: []api.Def{{Name: "main", Body: api.Expr{Op: api.Con, Name: "c"}}}}, 0, api.ErrName},
		{api.Program{Datas: []api.Data{{Name: "T", Cons: []api.Cons{{Name: "C", Args: []api.Type{{Name: "->"}}}}}}}, 0, api.ErrForm},
		{api.Program{Datas: []api.Data{{Name: "T", Params: []string{"a"}, Cons: []api.Cons{{Name: "C", Args: []api.Type{{Name: "a", Args: []api.Type{{Name: "a"}}}}}}}}}, 0, api.ErrForm},
		{api.Program{Datas: []api.Data{{Name: "T", Cons: make([]api.Cons, 61)}, {Name: "T"}}}, 0, api.ErrMany},
		{api.Program{Datas: make([]api.Data, 201)}, bare, api.ErrMany},
		{api.Program{Datas: same, Defs: make([]api.Def, 201)}, bare, api.ErrMany},
	} {
		err := scope.Check(c.p)
		if at, _ := err.(*api.At); (at != nil) != (c.place != bare) || at != nil && *at != (api.At{Pos: c.place, Err: c.want}) || !errors.Is(err, c.want) || !reflect.DeepEqual(err, syn.Valid(c.p)) {
			t.Errorf("%d: %v; want %d: %v", i, err, c.place, c.want)
		}
	}
}

// A program that goes on without an end is one that Valid does not take.
func TestCheckEndsOfAnyProgram(t *testing.T) {
	l := make([]api.Expr, 2)
	for i := range l {
		l[i] = api.Expr{Op: api.App, L: l}
	}
	args := make([]api.Type, 2)
	for i := range args {
		args[i] = api.Type{Name: "T", Args: args}
	}
	for _, p := range []api.Program{{Defs: []api.Def{{Name: "main", Body: l[0]}}}, {Datas: []api.Data{{Name: "T", Cons: []api.Cons{{Name: "C", Args: args}}}}}} {
		if err := scope.Check(p); err != api.ErrMany {
			t.Error(err)
		}
	}
	for _, op := range []int{math.MinInt, -1, 0, 11, math.MaxInt} {
		if err := scope.Check(api.Program{Defs: []api.Def{{Name: "main", Body: api.Expr{Op: op, Name: "x", Names: []string{""}, Alts: make([]api.Alt, 3)}}}}); !errors.Is(err, api.ErrForm) {
			t.Error(op, err)
		}
	}
}
