package free_test

import (
	"math"
	"testing"

	"gristmill/api"
	"gristmill/flo"
	"gristmill/free"
)

// wantRename holds what Rename and Subst make of the free Vars from against the text.
func wantRename(t *testing.T, s, from, to, want string) {
	t.Helper()
	e := read(t, s)
	if got := free.Rename(e, from, to); !same(got, read(t, want)) {
		t.Errorf("%.300q, %s to %s: %.300q; want %.300q", s, from, to, text(got), want)
	}
	if got := free.Subst(e, from, api.Expr{Op: api.Var, Name: to}); !same(got, read(t, want)) {
		t.Errorf("%.300q, %s by %s: %.300q; want %.300q", s, from, to, text(got), want)
	}
	if !same(e, read(t, s)) {
		t.Errorf("%.300q became %.300q", s, text(e))
	}
}

func TestRename(t *testing.T) {
	for _, x := range []struct{ s, want string }{
		{"x", "y"}, {"y", "y"}, {"z", "z"}, {"C", "C"}, {"1", "1"}, {"-1p-3", "-1p-3"}, {"(fail 7)", "(fail 7)"},
		{"(x x (z x) C)", "(y y (z y) C)"}, {"(C x y)", "(C y y)"}, {"(+ x 1)", "(+ y 1)"}, {"(seq z x)", "(seq z y)"}, {"(float x)", "(float y)"},
		// What binds it stays as it is, and so does what is bound.
		{"(fn (x) x)", "(fn (x) x)"}, {"(fn (z) x)", "(fn (z) y)"}, {"(fn (z x) (x z))", "(fn (z x) (x z))"}, {"(x (fn (x) x) x)", "(y (fn (x) x) y)"}, {"(fn (x) (fn (z) x))", "(fn (x) (fn (z) x))"}, {"(fn (z) (fn (x) x))", "(fn (z) (fn (x) x))"}, {"(fn (z) (x (fn (x) x) x))", "(fn (z) (y (fn (x) x) y))"},
		{"(let ((z x)) (x z))", "(let ((z y)) (y z))"}, {"(let ((x x)) x)", "(let ((x x)) x)"}, {"(let ((z x) (x 1)) x)", "(let ((z x) (x 1)) x)"}, {"(let ((x 1) (z x)) x)", "(let ((x 1) (z x)) x)"}, {"(let ((z 1) (w x)) (x (let ((x x)) x)))", "(let ((z 1) (w y)) (y (let ((x x)) x)))"},
		{"(case x ((C x) x))", "(case y ((C x) x))"}, {"(case x ((C z) x) ((D x) x) (_ x) (1 x) (E x))", "(case y ((C z) y) ((D x) x) (_ y) (1 y) (E y))"}, {"(case 1 ((C z x) (x z)) ((C x z) (fn (z) x)))", "(case 1 ((C z x) (x z)) ((C x z) (fn (z) x)))"},
		// It may catch.
		{"(fn (y) x)", "(fn (y) y)"}, {"(fn (y) (x y (fn (x) (x y))))", "(fn (y) (y y (fn (x) (x y))))"}, {"(let ((y x)) (x y))", "(let ((y y)) (y y))"}, {"(case x ((C y) (x y)))", "(case y ((C y) (y y)))"},
	} {
		wantRename(t, x.s, "x", "y", x.want)
	}
	wantRename(t, "(x (y (fn (x) (x y z))))", "x", "x", "(x (y (fn (x) (x y z))))")
	wantRename(t, "(x (y (fn (x) (x y z))))", "y", "x", "(x (x (fn (x) (x x z))))")
	wantRename(t, "(x (y (fn (x) (x y z))))", "z", "longer_1", "(x (y (fn (x) (x y longer_1))))")
}

// Names that are not of Vars are not renamed: of constructors, of prims, and where there is none.
func TestRenameOfNothingButVars(t *testing.T) {
	const s = "(C x (+ 1 2) (case C (C (D 1)) ((D x) (float 1)) (1 1p0) (_ (fail 1))) (let ((x N)) (fn (x y) (x y))))"
	for _, from := range []string{"C", "D", "N", "+", "float", "fail", "fn", "let", "case", "_", "1", "", "y", "xx", "X"} {
		wantRename(t, s, from, "z", s)
	}
	wantRename(t, s, "x", "z", "(C z (+ 1 2) (case C (C (D 1)) ((D x) (float 1)) (1 1p0) (_ (fail 1))) (let ((x N)) (fn (x y) (x y))))")
	// To any text, also one that is no name.
	for _, to := range []string{"C", "", "+", "1", "not a name"} {
		got := free.Rename(read(t, "(f x C)"), "x", to)
		if got.Op != api.App || len(got.L) != 3 || !same(got.L[1], api.Expr{Op: api.Var, Name: to}) || !same(got.L[0], read(t, "f")) || !same(got.L[2], read(t, "C")) {
			t.Errorf("%q: %v", to, got)
		}
	}
}

func TestSubst(t *testing.T) {
	for _, x := range []struct{ s, by, want string }{
		{"x", "1", "1"}, {"x", "(f 1)", "(f 1)"}, {"y", "(f 1)", "y"}, {"C", "(f 1)", "C"}, {"(x y x)", "(f 1)", "((f 1) y (f 1))"}, {"(C (x 1) (y x))", "D", "(C (D 1) (y D))"}, {"(+ x (* 2 x))", "1p1", "(+ 1p1 (* 2 1p1))"},
		{"(fn (y) (y x (fn (x) x)))", "(g z)", "(fn (y) (y (g z) (fn (x) x)))"}, {"(let ((a x) (b (a x))) (b x))", "(fail 1)", "(let ((a (fail 1)) (b (a (fail 1)))) (b (fail 1)))"}, {"(let ((a x) (x 1)) x)", "2", "(let ((a x) (x 1)) x)"},
		{"(case x (1 x) ((C a) (x a)) ((C x) x) (_ x))", "(fn (w) w)", "(case (fn (w) w) (1 (fn (w) w)) ((C a) ((fn (w) w) a)) ((C x) x) (_ (fn (w) w)))"},
		// It itself in what it is: once.
		{"x", "x", "x"}, {"x", "(x x)", "(x x)"}, {"(x (fn (y) x))", "(x (fn (x) x) 1)", "((x (fn (x) x) 1) (fn (y) (x (fn (x) x) 1)))"},
		// It may catch.
		{"(fn (y) x)", "(y z)", "(fn (y) (y z))"}, {"(fn (y) (fn (z) (x y z)))", "(fn (x) (x y z))", "(fn (y) (fn (z) ((fn (x) (x y z)) y z)))"}, {"(let ((y x)) y)", "(C y)", "(let ((y (C y))) y)"}, {"(case 1 ((C y) x))", "y", "(case 1 ((C y) y))"},
		{"(x x)", "(let ((x 1) (y x)) (case y ((C x) x) (-3 (fail 4)) (_ 1p-7)))", "((let ((x 1) (y x)) (case y ((C x) x) (-3 (fail 4)) (_ 1p-7))) (let ((x 1) (y x)) (case y ((C x) x) (-3 (fail 4)) (_ 1p-7))))"},
	} {
		e, by := read(t, x.s), read(t, x.by)
		if got := free.Subst(e, "x", by); !same(got, read(t, x.want)) {
			t.Errorf("%q by %q: %q; want %q", x.s, x.by, text(got), x.want)
		}
		if !same(e, read(t, x.s)) || !same(by, read(t, x.by)) {
			t.Errorf("%q, %q became %q, %q", x.s, x.by, text(e), text(by))
		}
	}
}

// Each field goes as it is: numbers at their ends, bits of floats.
func TestSubstKeepsNumbers(t *testing.T) {
	for _, n := range []int64{0, 1, -1, 7, math.MaxInt32, math.MaxInt64, math.MinInt64} {
		x, whole := api.Expr{Op: api.Var, Name: "x"}, api.Expr{Op: api.Int, N: n}
		bits := api.Expr{Op: api.Flo, N: int64(flo.Canon(uint64(n)))}
		fault := api.Expr{Op: api.Fail, N: n & math.MaxInt32}
		alts := func(e api.Expr) []api.Alt {
			return []api.Alt{{Take: api.TakeInt, N: n, E: e}, {Take: api.TakeCon, Name: "C", Names: []string{"a", "b"}, E: bits}, {Take: api.TakeCon, Name: "D", E: e}, {Take: api.TakeAny, E: fault}}
		}
		of := func(e api.Expr) api.Expr {
			return api.Expr{Op: api.Case, L: []api.Expr{{Op: api.Prim, Name: "+", L: []api.Expr{whole, e}}}, Alts: alts(e)}
		}
		for _, by := range []api.Expr{whole, bits, fault, of(whole), of(x)} {
			if got := free.Subst(of(x), "x", by); !same(got, of(by)) {
				t.Errorf("%d: %v", n, got)
			}
			if got := free.Subst(of(x), "y", by); !same(got, of(x)) {
				t.Errorf("%d: %v", n, got)
			}
		}
	}
}
