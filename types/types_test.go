package types_test

import (
	"slices"
	"strconv"
	"strings"
	"testing"

	"gristmill/api"
	"gristmill/types"
)

func ty(name string, l ...api.Type) api.Type { return api.Type{Name: name, Args: l} }

func read(t *testing.T, s string) api.Type {
	t.Helper()
	x, err := types.Parse(s)
	if err != nil {
		t.Fatalf("%.300q: %v", s, err)
	}
	return x
}

func reads(t *testing.T, l ...string) (out []api.Type) {
	t.Helper()
	for _, s := range l {
		out = append(out, read(t, s))
	}
	return out
}

// list is the types of a text that has a comma between any two.
func list(t *testing.T, s string) []api.Type {
	t.Helper()
	if s == "" {
		return nil
	}
	return reads(t, strings.Split(s, ", ")...)
}

// written is the Texts of the types, with a comma between any two.
func written(l []api.Type) string {
	var out []string
	for _, x := range l {
		out = append(out, types.Text(x))
	}
	return strings.Join(out, ", ")
}

func want(t *testing.T, what, got, want string) {
	t.Helper()
	if got != want {
		t.Errorf("%.300s: %.300q; want %.300q", what, got, want)
	}
}

// wantIs holds that a type may be, or may not be, alone and within others.
func wantIs(t *testing.T, x api.Type, is bool) {
	t.Helper()
	for i, y := range []api.Type{x, ty("L", x), ty("->", ty("a"), x), ty("P", ty("Int"), ty("L", x), ty("b"))} {
		if types.Is(y) != is {
			t.Errorf("%.300q, way %d: %v", types.Text(x), i, !is)
		}
	}
}

// nest is the inner type within n types of one Arg.
func nest(n int, inner api.Type) api.Type {
	for range n {
		inner = ty("L", inner)
	}
	return inner
}

// wide is a type with n Args, each a variable.
func wide(n int) api.Type {
	x := ty("T")
	for i := range n {
		x.Args = append(x.Args, ty("v"+strconv.Itoa(i)))
	}
	return x
}

func TestIsOfNames(t *testing.T) {
	forty := strings.Repeat("x", 39)
	for _, s := range []string{"a", "z", "ab", "aB_9", "int", "float1", "f", "q" + forty} {
		wantIs(t, ty(s), true)
		wantIs(t, ty(s, ty("b")), false)
		wantIs(t, ty(s, ty("b"), ty("b")), false)
	}
	for _, s := range []string{"A", "Int", "Float", "T_1", "Z9a", "Fn", "Q" + forty} {
		wantIs(t, ty(s), true)
		wantIs(t, ty(s, ty("b")), true)
		wantIs(t, ty(s, ty("b"), ty("Int"), ty(s)), true)
	}
	for _, s := range []string{"", "fn", "let", "case", "fail", "data", "def", "div", "mod", "float", "whole", "seq", "inf", "nan", "+", "-", ">", "=>", "->>", "<-", "f+", "1", "_a", "_", "a-b", "A.b", "a b", "a ", " A", "A\n", "(", "()", "\u00e9", "\u00c9", "a\u00e9", "A\x00", "qx" + forty, "Qx" + forty} {
		wantIs(t, ty(s), false)
		wantIs(t, ty(s, ty("b")), false)
		wantIs(t, ty(s, ty("b"), ty("b")), false)
	}
	wantIs(t, api.Type{Name: "a", Args: []api.Type{}}, true)
}

func TestIsOfArrows(t *testing.T) {
	for n := range 70 {
		x := wide(n)
		wantIs(t, x, true)
		x.Name = "->"
		wantIs(t, x, n == 2)
		for i := range x.Args {
			y := ty("T", slices.Clone(x.Args)...)
			y.Args[i] = api.Type{}
			wantIs(t, y, false)
		}
	}
}

func TestIsAtMaxDeep(t *testing.T) {
	for _, x := range []struct {
		t  api.Type
		is bool
	}{
		{nest(api.MaxDeep-1, ty("a")), true}, {nest(api.MaxDeep, ty("a")), false}, {nest(api.MaxDeep-1, ty("Int")), true}, {nest(api.MaxDeep, ty("Int")), false}, {nest(1<<16, ty("a")), false},
		{ty("P", ty("a"), nest(api.MaxDeep-2, ty("a"))), true}, {ty("P", ty("a"), nest(api.MaxDeep-1, ty("a"))), false}, {ty("P", nest(api.MaxDeep-1, ty("a")), ty("a")), false},
		{types.Fun(slices.Repeat([]api.Type{ty("a")}, api.MaxDeep-1), ty("b")), true}, {types.Fun(slices.Repeat([]api.Type{ty("a")}, api.MaxDeep), ty("b")), false},
	} {
		if types.Is(x.t) != x.is {
			t.Errorf("%.300q: %v", types.Text(x.t), !x.is)
		}
	}
}

func TestIsAtMaxSize(t *testing.T) {
	// Two rows of n: 2n + 3 types.
	rows := func(n int) api.Type { return ty("P", wide(n), wide(n)) }
	for _, x := range []struct {
		t  api.Type
		is bool
	}{
		{wide(api.MaxSize - 1), true}, {wide(api.MaxSize), false}, {rows((api.MaxSize - 4) / 2), true}, {rows((api.MaxSize - 2) / 2), false},
		{ty("P", rows((api.MaxSize-6)/2), ty("a")), true}, {ty("Q", rows((api.MaxSize-6)/2), ty("a"), ty("a")), true}, {ty("R", rows((api.MaxSize-6)/2), ty("a"), ty("a"), ty("a")), false},
	} {
		if types.Is(x.t) != x.is {
			t.Errorf("%.300q: %v", types.Text(x.t), !x.is)
		}
	}
	// As often as not, each twice as large as the one in it: only a look that is cut comes to its end.
	twice := ty("a")
	for range 199 {
		twice = ty("P", twice, twice)
	}
	// One that is within itself.
	round := ty("P", ty("a"), ty("b"))
	round.Args[1] = round
	if types.Is(twice) || types.Is(round) {
		t.Error("a type without an end may be")
	}
}

func TestFun(t *testing.T) {
	for _, x := range []struct{ args, to, want string }{
		{"Int", "Int", "(-> Int Int)"}, {"", "a", "a"}, {"", "(L a)", "(L a)"}, {"a, Int", "b", "(-> a (-> Int b))"},
		{"(-> a b), a", "b", "(-> (-> a b) (-> a b))"}, {"(P a (L b)), c, Float", "(-> c (T c))", "(-> (P a (L b)) (-> c (-> Float (-> c (T c)))))"},
	} {
		want(t, x.args, types.Text(types.Fun(list(t, x.args), read(t, x.to))), x.want)
	}
	long := types.Fun(reads(t, slices.Repeat([]string{"a"}, 60)...), ty("b"))
	want(t, "sixty", types.Text(long), strings.Repeat("(-> a ", 60)+"b"+strings.Repeat(")", 60))
}

func TestVars(t *testing.T) {
	for _, x := range []struct{ types, want string }{
		{"", ""}, {"a", "a"}, {"Int", ""}, {"(L Int), Float", ""}, {"a, a", "a"}, {"b, a", "b a"}, {"(P b a), (-> c b)", "b a c"},
		{"(P (P z y) x), w, (L z)", "z y x w"}, {"(T (L (L q)) Int q (-> p q)), (T (L o) p)", "q p o"}, {"ab, a, abc, aB", "ab a abc aB"},
	} {
		want(t, x.types, strings.Join(types.Vars(list(t, x.types)...), " "), x.want)
	}
	if got := types.Vars(); len(got) > 0 {
		t.Error(got)
	}
	if got := types.Vars(wide(19999), wide(20), wide(20000), wide(19998)); len(got) != 20000 || got[0] != "v0" || got[19999] != "v19999" {
		t.Errorf("%d, %.300q", len(got), got)
	}
	// Its name alone makes a type a variable, also one that may not be.
	if got := types.Vars(ty("fn"), ty("T", ty("q!", ty("b")), ty("_"), ty(""), ty("{"), ty("`"), ty("\u00e9"), ty("z-"))); strings.Join(got, " ") != "fn q! z-" {
		t.Errorf("%q", got)
	}
}

func TestNorm(t *testing.T) {
	for _, x := range []struct{ t, want string }{
		{"a", "a"}, {"q", "a"}, {"Int", "Int"}, {"(L Int)", "(L Int)"}, {"(P z (P q z))", "(P a (P b a))"}, {"(-> b a)", "(-> a b)"},
		{"(P b (P a b))", "(P a (P b a))"}, {"(T c b a c)", "(T a b c a)"}, {"(T b c d a)", "(T a b c d)"}, {"(-> (-> x y) (-> (L x) (L y)))", "(-> (-> a b) (-> (L a) (L b)))"},
	} {
		want(t, x.t, types.Text(types.Norm(read(t, x.t))), x.want)
	}
}

// Each letter, and each turn of them, as far as a type that may be has variables.
func TestNormOfManyVariables(t *testing.T) {
	x := types.Norm(wide(19999))
	for i, arg := range x.Args {
		name := string(rune('a' + i%26))
		if i >= 26 {
			name += strconv.Itoa(i / 26)
		}
		if arg.Name != name || len(arg.Args) > 0 {
			t.Fatal(i, arg, name)
		}
	}
	if !types.Is(x) || x.Args[25].Name != "z" || x.Args[26].Name != "a1" || x.Args[51].Name != "z1" || x.Args[52].Name != "a2" || x.Args[259].Name != "z9" || x.Args[260].Name != "a10" {
		t.Error(x.Args[:261])
	}
	if again := types.Norm(x); !types.Same(again, x) {
		t.Error("Norm of it is another one")
	}
	// The names that it gives may be those of other variables.
	slices.Reverse(x.Args)
	if again := types.Norm(x); again.Args[0].Name != "a" || again.Args[19998].Name != "e769" {
		t.Error(again.Args[0], again.Args[19998])
	}
}

func TestApply(t *testing.T) {
	for _, x := range []struct{ t, names, to, want string }{
		{"(P a (P b c))", "a b a", "(L b), Int, q", "(P (L b) (P Int c))"}, {"a", "a", "Int", "Int"}, {"a", "b", "Int", "a"}, {"a", "", "", "a"}, {"a", "", "Int", "a"},
		{"(P a b)", "a b", "b, a", "(P b a)"}, {"(P a a)", "a", "(P a a)", "(P (P a a) (P a a))"}, {"(P a b)", "a b", "b, Int", "(P b Int)"},
		// Nothing stands there, or more than is named.
		{"(P a b)", "a b", "Int", "(P Int b)"}, {"(P a b)", "a b", "", "(P a b)"}, {"(P a b)", "b b a", "Int", "(P a Int)"}, {"(P a b)", "a", "Int, Float", "(P Int b)"},
		// The first of a name.
		{"(P a b)", "b a b", "b, (L a), Int", "(P (L a) b)"}, {"a", "a a", "Int, Float", "Int"},
		// A name of another type is no variable.
		{"(T Int (-> a Int))", "Int T -> a", "a, a, a, Float", "(T Int (-> Float Int))"}, {"Int", "Int", "a", "Int"},
	} {
		got := types.Apply(read(t, x.t), strings.Fields(x.names), list(t, x.to))
		want(t, x.t+" "+x.names+" "+x.to, types.Text(got), x.want)
	}
	// Of twenty thousand the last one stays.
	names, to := types.Vars(wide(19999)), make([]api.Type, 19999)
	wanted := "(T" + strings.Repeat(" (L x)", 19999) + " v19999)"
	for i := range to {
		to[i] = ty("L", ty("x"))
	}
	want(t, "a wide one", types.Text(types.Apply(wide(20000), names, to)), wanted)
}

func TestSame(t *testing.T) {
	l := []api.Type{{}, ty("a"), ty("b"), ty("Int"), ty("L", ty("a")), ty("L", ty("b")), ty("L", ty("a"), ty("a")), ty("P", ty("a"), ty("b")), ty("P", ty("b"), ty("a")), ty("->", ty("a"), ty("a")), ty("L", ty("L", ty("a"))), ty("a", ty("a")), ty("L"), ty("M", ty("a")), ty("L", ty("L"))}
	for i, a := range l {
		for k, b := range l {
			if types.Same(a, b) != (i == k) {
				t.Errorf("%q, %q: %v", types.Text(a), types.Text(b), i != k)
			}
		}
	}
	if !types.Same(api.Type{Name: "L", Args: []api.Type{}}, ty("L")) || !types.Same(nest(1<<16, ty("a")), nest(1<<16, ty("a"))) || types.Same(nest(1<<16, ty("a")), nest(1<<16, ty("b"))) {
		t.Error("nil and the empty list, or deep ones")
	}
}
