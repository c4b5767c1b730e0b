package types_test

import (
	"slices"
	"strconv"
	"strings"
	"testing"

	"gristmill/api"
	"gristmill/types"
)

// wantUnify holds what Unify answers of the types of two texts, which have a comma between any two types.
func wantUnify(t *testing.T, a, b, names, to string, want error) {
	t.Helper()
	gotNames, gotTo, err := types.Unify(list(t, a), list(t, b))
	if got := strings.Join(gotNames, " "); got != names || written(gotTo) != to || err != want {
		t.Errorf("%.300q, %.300q: %q, %.300q, %v; want %q, %q, %v", a, b, got, written(gotTo), err, names, to, want)
	}
}

func TestUnify(t *testing.T) {
	for _, x := range []struct{ a, b, names, to string }{
		{"", "", "", ""}, {"a", "a", "", ""}, {"Int", "Int", "", ""}, {"(P a (L b))", "(P a (L b))", "", ""},
		{"a", "Int", "a", "Int"}, {"Int", "a", "a", "Int"}, {"a", "(P b c)", "a", "(P b c)"}, {"(-> a b)", "(-> Int (L a))", "a b", "Int, (L Int)"},
		{"(P a (L a))", "(P (L b) c)", "a c", "(L b), (L (L b))"}, {"(P a a)", "(P Int b)", "a b", "Int, Int"}, {"(P a (P b a))", "(P c (P (L c) d))", "b c d", "(L a), a, a"},
		// One by another, which becomes something only later.
		{"a, b, c", "b, c, Int", "a b c", "Int, Int, Int"}, {"c, b, a", "Int, c, b", "a b c", "Int, Int, Int"}, {"a, b, c, d", "(L b), (L c), (L d), Int", "a b c d", "(L (L (L Int))), (L (L Int)), (L Int), Int"},
		{"(P a b), a", "c, (L b)", "a c", "(L b), (P (L b) b)"}, {"(P a b), (P b a)", "x, x", "b x", "a, (P a a)"}, {"x, x", "(P a (L c)), (P (L b) a)", "a b x", "(L c), c, (P (L c) (L c))"},
		// The names rise as bytes do.
		{"b, aB, a1, a, a_, a10, a2, ab", "Int, Int, Int, Int, Int, Int, Int, Int", "a a1 a10 a2 aB a_ ab b", "Int, Int, Int, Int, Int, Int, Int, Int"},
	} {
		wantUnify(t, x.a, x.b, x.names, x.to, nil)
	}
}

// Of two variables that become the same the one that comes first stays.
func TestUnifyOfVariables(t *testing.T) {
	for _, x := range []struct{ a, b, names, to string }{
		{"a", "b", "b", "a"}, {"b", "a", "a", "b"}, {"(P b a)", "(P a b)", "a", "b"}, {"(P a (P b c))", "(P b (P c d))", "b c d", "a, a, a"}, {"(P c (P b a))", "(P d (P c b))", "a b d", "c, c, c"},
		{"z, y, x", "y, x, w", "w x y", "z, z, z"}, {"a, b, c, d, e, f", "b, a, d, c, a, c", "b d e f", "a, c, a, c"}, {"x, y, z", "p, q, r", "p q r", "x, y, z"},
		// All of a comes ahead of all of b.
		{"z, y", "(L x), x", "x z", "y, (L y)"}, {"(P z Int), y", "(P (L x) w), x", "w x z", "Int, y, (L y)"}, {"(L z), (L y), (L x)", "(L w), (L w), (L w)", "w x y", "z, z, z"},
		// What stays stands in all that the others become.
		{"d, c, b", "(P c b), b, a", "a b d", "c, c, (P c c)"}, {"(T q p q)", "(T p o (L n))", "o p q", "(L n), (L n), (L n)"}, {"m, k, l", "k, l, (P j i)", "k l m", "(P j i), (P j i), (P j i)"},
	} {
		wantUnify(t, x.a, x.b, x.names, x.to, nil)
	}
}

func TestUnifyErrType(t *testing.T) {
	for _, x := range []struct{ a, b string }{
		{"Int", "Float"}, {"Int", "(L a)"}, {"(L a)", "(M a)"}, {"(L a)", "(L a b)"}, {"L", "(L a)"}, {"(-> a b)", "(L a)"}, {"(-> a b)", "(P a b)"}, {"(-> a a)", "(-> Int Float)"}, {"(P a (L a))", "(P Int (L Float))"},
		{"a, a", "Int, Float"}, {"a, b, b", "b, Int, (L c)"}, {"a, b, a", "(L c), Int, (P b b)"}, {"a, b, a, b", "(L b), c, (L (L d)), Int"}, {"Int, a", "Int, (L a)"}, {"a, Int", "b, Float"},
		// A variable within its own type.
		{"(L a)", "a"}, {"a", "(L a)"}, {"a", "(P Int (L (L a)))"}, {"(P a b)", "(P (L b) (L a))"}, {"a, b, c", "(L b), (L c), (L a)"}, {"a, b", "b, (L a)"}, {"(P a a)", "(P b (L b))"}, {"(-> a b)", "b"}, {"x, x", "(P a (L b)), (P (L b) b)"},
		{"q, a", "(P b c), (L a)"}, {"(T a (L a) Int)", "(T b c (L d))"},
	} {
		wantUnify(t, x.a, x.b, "", "", api.ErrType)
		wantUnify(t, x.b, x.a, "", "", api.ErrType)
	}
}

func TestUnifyErrMany(t *testing.T) {
	for _, x := range []struct{ a, b string }{{"a", ""}, {"", "a"}, {"a, b", "a"}, {"Int", "Int, Int"}, {"Int, Int", "Float"}, {"a, a, a", "(L a), b"}} {
		wantUnify(t, x.a, x.b, "", "", api.ErrMany)
	}
}

// chain is lists by which each variable becomes what step makes of the next one.
func chain(n int, step func(api.Type) api.Type) (a, b []api.Type) {
	l := wide(n + 1).Args
	for i := range n {
		a, b = append(a, l[i]), append(b, step(l[i+1]))
	}
	return a, b
}

func twice(t api.Type) api.Type { return ty("P", t, t) }

func once(t api.Type) api.Type { return ty("L", t) }

// wantLarge holds how many types there are in all that variables become, or the error.
func wantLarge(t *testing.T, what string, a, b []api.Type, size int, want error) {
	t.Helper()
	names, to, err := types.Unify(a, b)
	n := len(argsOf(to...)) // a list for each type
	if len(names) != len(to) || n != size || err != want {
		t.Errorf("%s: %d names, %d types in %d, %v; want %d, %v", what, len(names), n, len(to), err, size, want)
	}
}

func TestUnifyAtMaxSize(t *testing.T) {
	row := wide(api.MaxSize - 1)
	over := ty("T", append(slices.Clone(row.Args), ty("Int"))...)
	x, y := ty("x"), ty("y")
	wantLarge(t, "one", []api.Type{x}, []api.Type{row}, api.MaxSize, nil)
	wantLarge(t, "one, over", []api.Type{x}, []api.Type{over}, 0, api.ErrMany)
	wantLarge(t, "two", []api.Type{x, y}, []api.Type{wide(api.MaxSize - 2), ty("Int")}, api.MaxSize, nil)
	wantLarge(t, "two, over", []api.Type{x, y}, []api.Type{row, ty("Int")}, 0, api.ErrMany)
	wantLarge(t, "a variable that another one becomes", []api.Type{x, ty("v0")}, []api.Type{row, y}, 0, api.ErrMany)
	wantLarge(t, "each as large as may be", []api.Type{x, y}, []api.Type{row, row}, 0, api.ErrMany)
	half := wide(api.MaxSize/2 - 1)
	wantLarge(t, "halves", []api.Type{x, y}, []api.Type{half, half}, api.MaxSize, nil)
	// What no variable becomes counts for nothing.
	wantLarge(t, "beside", []api.Type{over, row, x}, []api.Type{over, row, half}, api.MaxSize/2, nil)
	wantLarge(t, "Ints", row.Args, slices.Repeat([]api.Type{ty("Int")}, api.MaxSize-1), api.MaxSize-1, nil)
	wantLarge(t, "more Ints", over.Args[:api.MaxSize-1], slices.Repeat([]api.Type{ty("Int")}, api.MaxSize-1), api.MaxSize-1, nil)
	wantLarge(t, "as many Ints", wide(api.MaxSize).Args, slices.Repeat([]api.Type{ty("Int")}, api.MaxSize), api.MaxSize, nil)
	wantLarge(t, "too many Ints", wide(api.MaxSize+1).Args, slices.Repeat([]api.Type{ty("Int")}, api.MaxSize+1), 0, api.ErrMany)
	// n steps are 2 + 3 + .. + (n + 1) types; where each is twice as large, 2^(n+2) - n - 4.
	a, b := chain(197, once)
	wantLarge(t, "steps", a, b, 197*200/2, nil)
	a, b = chain(198, once)
	wantLarge(t, "more steps", a, b, 198*201/2, nil)
	a, b = chain(199, once)
	wantLarge(t, "too many steps", a, b, 0, api.ErrMany)
	a, b = chain(12, twice)
	wantLarge(t, "doubled", a, b, 1<<14-16, nil)
	a, b = chain(13, twice)
	wantLarge(t, "doubled, over", a, b, 0, api.ErrMany)
	for _, n := range []int{62, 63, 64, 65, 127, 128, 200, 5000} {
		a, b = chain(n, twice)
		wantLarge(t, "doubled "+strconv.Itoa(n), a, b, 0, api.ErrMany)
		slices.Reverse(a)
		slices.Reverse(b)
		wantLarge(t, "doubled the other way round "+strconv.Itoa(n), b, a, 0, api.ErrMany)
	}
}

// That there are none is told ahead of how large they would be.
func TestUnifyErrTypeComesAheadOfMaxSize(t *testing.T) {
	for _, n := range []int{40, 200, 5000} {
		a, b := chain(n, twice)
		last := b[n-1].Args[0]
		for _, x := range []struct{ a, b api.Type }{{ty("Int"), ty("Float")}, {last, a[0]}, {last, ty("L", a[0])}, {a[n/2], ty("L", last)}, {ty("z"), ty("L", ty("z"))}} {
			wantLarge(t, "behind", append(slices.Clone(a), x.a), append(slices.Clone(b), x.b), 0, api.ErrType)
			wantLarge(t, "ahead", append([]api.Type{x.b}, b...), append([]api.Type{x.a}, a...), 0, api.ErrType)
		}
	}
}

// Many, and far within one another: what is written out too often, looked for too long or called too deep does not come to its end.
func TestUnifyOfManyAndDeep(t *testing.T) {
	const n = 200000
	a, b := chain(n, once)
	wantLarge(t, "steps", a, b, 0, api.ErrMany)
	wantLarge(t, "a ring", append(a, b[n-1].Args[0]), append(b, a[0]), 0, api.ErrType)
	a, b = chain(n, func(t api.Type) api.Type { return t })
	wantLarge(t, "one variable", a, b, 0, api.ErrMany)
	wantLarge(t, "the same ones", a, a, 0, nil)
	wantLarge(t, "rows", []api.Type{ty("T", a...)}, []api.Type{ty("T", b...)}, 0, api.ErrMany)
	wantLarge(t, "rows that are no types", []api.Type{ty("T", a...)}, []api.Type{ty("T", append(slices.Clone(b[1:]), ty("L", b[0]))...)}, 0, api.ErrType)
	deep, deeper := nest(1<<16-1, ty("a")), nest(1<<16, ty("a"))
	wantLarge(t, "deep ones", []api.Type{deep}, []api.Type{nest(1<<16-1, ty("b"))}, 1, nil)
	wantLarge(t, "a deeper one", []api.Type{deep}, []api.Type{deeper}, 0, api.ErrType)
	wantLarge(t, "a deep one of its own", []api.Type{deep}, []api.Type{nest(1<<16, ty("b"))}, 2, nil)
	// Two that are the same, each twice as large as the one in it, by variables of their own.
	a, b = chain(100, twice)
	a, b = append(a, renamed(a)...), append(b, renamed(b)...)
	a, b = append(a, ty("v0")), append(b, ty("w0"))
	wantLarge(t, "doubled twice", a, b, 0, api.ErrMany)
	wantLarge(t, "doubled twice, at odds", append(a, ty("v100")), append(b, ty("L", ty("w100"))), 0, api.ErrType)
}

// renamed is the types with a w for the v that the names of their variables begin with.
func renamed(l []api.Type) (out []api.Type) {
	for _, x := range l {
		var to []api.Type
		for _, name := range types.Vars(x) {
			to = append(to, ty("w"+name[1:]))
		}
		out = append(out, types.Apply(x, types.Vars(x), to))
	}
	return out
}

// What is within one another deeper than a type may be is a type that a variable becomes.
func TestUnifyDeeperThanATypeMayBe(t *testing.T) {
	a, b := []api.Type{nest(199, ty("a")), ty("a")}, []api.Type{ty("x"), nest(199, ty("b"))}
	names, to, err := types.Unify(a, b)
	if strings.Join(names, " ") != "a x" || len(to) != 2 || !types.Same(to[1], nest(398, ty("b"))) || err != nil {
		t.Errorf("%q, %.300q, %v", names, written(to), err)
	}
}

func TestInstance(t *testing.T) {
	for _, x := range []struct {
		general, t string
		is         bool
	}{
		{"a", "Int", true}, {"a", "a", true}, {"a", "b", true}, {"a", "(L a)", true}, {"Int", "Int", true}, {"Int", "Float", false}, {"Int", "a", false}, {"L", "(L a)", false}, {"(L a)", "L", false},
		{"(P a a)", "(P b b)", true}, {"(P a a)", "(P a b)", false}, {"(P a b)", "(P b a)", true}, {"(P a b)", "(P c c)", true}, {"(-> a b)", "(-> (L a) a)", true}, {"(L a)", "(M a)", false}, {"(L a)", "(L a b)", false}, {"(P a b)", "(P a)", false},
		// Variables of t stand, also one of a name that general has.
		{"(L a)", "a", false}, {"(P a Int)", "(P Int a)", false}, {"(P a (L a))", "(P (L a) (L (L a)))", true}, {"(P a (L a))", "(P a (L b))", false}, {"(P a (L b))", "(P b (L a))", true}, {"(P a (P b a))", "(P b (P a b))", true}, {"(P a (P b a))", "(P b (P a a))", false},
		{"(T a b a)", "(T (L x) x (L x))", true}, {"(T a b a)", "(T (L x) x (L y))", false}, {"(-> (-> a b) (-> (L a) (L b)))", "(-> (-> Int c) (-> (L Int) (L c)))", true}, {"(-> (-> a b) (-> (L a) (L b)))", "(-> (-> Int c) (-> (L c) (L Int)))", false},
	} {
		if types.Instance(read(t, x.general), read(t, x.t)) != x.is {
			t.Errorf("%q, %q: %v", x.general, x.t, !x.is)
		}
	}
	deep := nest(1<<16, ty("a"))
	if !types.Instance(nest(1<<15, ty("a")), deep) || !types.Instance(deep, deep) || types.Instance(deep, nest(1<<15, ty("a"))) || !types.Instance(wide(api.MaxSize), wide(api.MaxSize)) || !types.Instance(ty("P", ty("a"), ty("a")), ty("P", deep, deep)) {
		t.Error("deep or wide ones")
	}
}
