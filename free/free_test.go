package free_test

import (
	"fmt"
	"slices"
	"strings"
	"testing"

	"gristmill/api"
	"gristmill/free"
	"gristmill/syn"
)

// read is the expression of the text.
func read(t *testing.T, s string) api.Expr {
	t.Helper()
	p, err := syn.Parse("(def f " + s + ")")
	if err != nil {
		t.Fatalf("%.300q: %v", s, err)
	}
	return p.Defs[0].Body
}

// program has the expression, as syn takes one.
func program(e api.Expr) api.Program {
	return api.Program{Defs: []api.Def{{Name: "f", Body: e}}}
}

func same(a, b api.Expr) bool { return syn.Same(program(a), program(b)) }

// text is the expression as Text writes it.
func text(e api.Expr) string {
	return strings.TrimSuffix(strings.TrimPrefix(strings.TrimSpace(syn.Text(program(e))), "(def f "), ")")
}

// wantNames holds what the calls tell of the expression against the names with a space between.
func wantNames(t *testing.T, s, names, bound string) {
	t.Helper()
	e := read(t, s)
	if got := strings.Join(free.Names(e), " "); got != names {
		t.Errorf("Names of %.300q: %.300q; want %.300q", s, got, names)
	}
	if got := strings.Join(free.Bound(e), " "); got != bound {
		t.Errorf("Bound of %.300q: %.300q; want %.300q", s, got, bound)
	}
	if got := free.Closed(e); got != (names == "") {
		t.Errorf("Closed of %.300q: %v", s, got)
	}
}

func TestNamesOfWhatBindsNothing(t *testing.T) {
	for _, x := range []struct{ s, names string }{
		{"x", "x"}, {"C", ""}, {"1", ""}, {"1p0", ""}, {"(fail 1)", ""}, {"(C 1 1p0 N (fail 2))", ""},
		{"(f x y)", "f x y"}, {"(y x f)", "y x f"}, {"(x x)", "x"}, {"(x x y x y)", "x y"}, {"(C y x)", "y x"}, {"(f (g x) (x f h))", "f g x h"}, {"((a b) (b c (c d)) a)", "a b c d"},
		{"(+ y x)", "y x"}, {"(seq x (f x y))", "x f y"}, {"(float x)", "x"}, {"(+ 1 2)", ""},
		{"(case x (1 y) (_ z))", "x y z"}, {"(case z (1 y) (2 x))", "z y x"}, {"(case x (C y) (D x) (_ w))", "x y w"}, {"(case (f x) (_ (x g)))", "f x g"}, {"(case 1 (1 2))", ""},
		{"((case b (_ a)) (case d (_ c)))", "b a d c"}, {"(case (case c (_ b)) (1 (case a (_ d))) (_ e))", "c b a d e"},
	} {
		wantNames(t, x.s, x.names, "")
	}
}

func TestNamesOfFn(t *testing.T) {
	for _, x := range []struct{ s, names, bound string }{
		{"(fn (x) (x y))", "y", "x"}, {"(fn (x) x)", "", "x"}, {"(fn (x) y)", "y", "x"}, {"(fn (x y) (y z x w))", "z w", "x y"}, {"(fn (y x) (x y))", "", "y x"}, {"(fn (x x) (x y))", "y", "x"}, {"(fn (x y x z) 1)", "", "x y z"},
		// It is bound there, and neither ahead of it nor behind it.
		{"(x (fn (x) x))", "x", "x"}, {"((fn (x) x) x)", "x", "x"}, {"((fn (x) y) (fn (y) x))", "y x", "x y"}, {"((fn (x) x) (fn (y) x))", "x", "x y"}, {"(y (fn (x) (x y z)) x)", "y z x", "x"},
		// Twice around a place: the inner one ends, the outer one not yet.
		{"(fn (x) ((fn (x) x) x))", "", "x"}, {"(fn (x) (x (fn (x y) (x y)) y))", "y", "x y"}, {"((fn (x) ((fn (x) x) x)) x)", "x", "x"}, {"((fn (x x) x) x)", "x", "x"}, {"(fn (x) ((fn (x x) x) x))", "", "x"},
		{"(fn (b) (fn (a) (c a b)))", "c", "b a"}, {"(fn (x) (fn (y) (fn (z) (z y x w))))", "w", "x y z"}, {"(+ (fn (x) y) (fn (y) x))", "y x", "x y"},
	} {
		wantNames(t, x.s, x.names, x.bound)
	}
}

func TestNamesOfLet(t *testing.T) {
	for _, x := range []struct{ s, names, bound string }{
		{"(let ((x y)) x)", "y", "x"}, {"(let ((x 1)) y)", "y", "x"}, {"(let ((x 1)) 2)", "", "x"},
		// It binds in all of its parts: in what each name is, too, its own and the others.
		{"(let ((x x)) x)", "", "x"}, {"(let ((x (f x))) 1)", "f", "x"}, {"(let ((x y) (y x)) z)", "z", "x y"}, {"(let ((x y) (y 1)) x)", "", "x y"}, {"(let ((x 1) (y x)) x)", "", "x y"},
		{"(let ((b (f a)) (c (b d)) (a c)) (g a b c))", "f d g", "b c a"}, {"(let ((x 1) (x z)) x)", "z", "x"},
		{"((let ((x y)) x) x)", "y x", "x"}, {"(x (let ((x y)) x) y)", "x y", "x"}, {"(let ((x 1)) (let ((y x)) (x y z)))", "z", "x y"}, {"(let ((x (let ((y x)) y))) y)", "y", "x y"},
		{"(let ((x (fn (a) y)) (y (fn (b) a))) (fn (c) b))", "a b", "x y a b c"}, {"(let ((a 1)) (fn (a) a))", "", "a"},
	} {
		wantNames(t, x.s, x.names, x.bound)
	}
}

func TestNamesOfCase(t *testing.T) {
	for _, x := range []struct{ s, names, bound string }{
		{"(case x ((C a b) (a c b)))", "x c", "a b"}, {"(case 1 ((C x) x))", "", "x"}, {"(case 1 ((C x x) (x y)))", "y", "x"},
		// An Alt binds in its own E, and in nothing else.
		{"(case x ((C x) x))", "x", "x"}, {"(case 1 ((C x) x) (_ x))", "x", "x"}, {"(case 1 (_ x) ((C x) x))", "x", "x"}, {"(case 1 ((C x) y) ((D y) x))", "y x", "x y"}, {"(case 1 ((C x) x) ((D x) x))", "", "x"}, {"(case 1 ((C x) x) (1 1) (D (x y)))", "x y", "x"},
		{"((case 1 ((C x) x)) x)", "x", "x"}, {"(fn (x) (case x ((C x) x) (_ (x y))))", "y", "x"}, {"(fn (x) (case 1 ((C x) x) (_ x)))", "", "x"},
		// L, then Alts.
		{"(case (fn (q) r) ((C x) (fn (y) (x s))) (_ (fn (z) (t q))))", "r s t q", "q x y z"}, {"(case (case 1 ((C a) b)) ((C c) d))", "b d", "a c"}, {"(case 1 ((C c a) (case 1 ((C b) 1))))", "", "c a b"},
	} {
		wantNames(t, x.s, x.names, x.bound)
	}
}

func TestFresh(t *testing.T) {
	for _, x := range []struct {
		want, base string
		used       []string
	}{
		{"x", "x", nil}, {"x", "x", []string{}}, {"x", "x", []string{"y", "z"}}, {"x", "x", []string{"x_1", "x_2"}}, {"x", "x", []string{"", "X", "xx", "x_", "_"}},
		{"x_1", "x", []string{"x"}}, {"x_1", "x", []string{"y", "x"}}, {"x_1", "x", []string{"x", "x", "x"}}, {"x_1", "x", []string{"x", "x_2"}}, {"x_1", "x", []string{"x", "x_0", "x_01", "x_", "x_+1", "x1", "x_1_1", "X_1"}},
		{"x_2", "x", []string{"x", "x_1"}}, {"x_2", "x", []string{"x_3", "x_1", "x"}}, {"x_3", "x", []string{"x_2", "x", "x_4", "x_1"}},
		{"x_1", "x_1", []string{"x", "x_2"}}, {"x_1_1", "x_1", []string{"x_1"}}, {"x_1_2", "x_1", []string{"x_1_1", "x_1"}}, {"x_1", "x_1", []string{"x_1_1"}},
		{"", "", []string{"x"}}, {"_1", "", []string{""}}, {"_2", "", []string{"", "_1"}},
		{strings.Repeat("a", 40) + "_1", strings.Repeat("a", 40), []string{strings.Repeat("a", 40)}}, {"C_1", "C", []string{"C"}}, {"(_1", "(", []string{"("}},
	} {
		if got := free.Fresh(x.base, x.used...); got != x.want {
			t.Errorf("Fresh(%q, %q): %q; want %q", x.base, x.used, got, x.want)
		}
	}
	if got := free.Fresh("x"); got != "x" {
		t.Error(got)
	}
}

// Whatever part of the first names is used, in whatever order, it is the first of the others.
func TestFreshIsTheFirst(t *testing.T) {
	for _, base := range []string{"x", "x_1", "y_2_9"} {
		names := []string{base}
		for i := range 12 {
			names = append(names, fmt.Sprint(base, "_", i+1))
		}
		for part := range 1 << len(names) / 2 {
			var used []string
			want := ""
			for i, name := range names {
				if part>>i&1 == 1 {
					used = append(used, name)
				} else if want == "" {
					want = name
				}
			}
			back := slices.Clone(used)
			slices.Reverse(back)
			if got, other := free.Fresh(base, used...), free.Fresh(base, back...); got != want || other != want {
				t.Fatalf("Fresh(%q, %q): %q, %q; want %q", base, used, got, other, want)
			}
		}
	}
}

func TestFreshOfMany(t *testing.T) {
	used := []string{"x"}
	for i := range 100000 {
		used = append(used, fmt.Sprint("x_", 100000-i))
	}
	if got := free.Fresh("x", used...); got != "x_100001" {
		t.Error(got)
	}
	if got := free.Fresh("x", used[:100000]...); got != "x_1" {
		t.Error(got)
	}
	if got := free.Fresh("y", used...); got != "y" {
		t.Error(got)
	}
}
