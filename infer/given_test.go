package infer_test

import (
	"reflect"
	"strings"
	"testing"

	"gristmill/api"
	"gristmill/infer"
	"gristmill/num"
	"gristmill/types"
)

// wantGiven holds an answer of Prim or Cons; an empty text is false.
func wantGiven(t *testing.T, name string, got api.Type, ok bool, want string) {
	t.Helper()
	if types.Text(got) != want || ok != (want != "") || !ok && !reflect.DeepEqual(got, api.Type{}) {
		t.Errorf("%.100q: %.300q, %v; want %.300q", name, types.Text(got), ok, want)
	}
}

func TestPrim(t *testing.T) {
	table := []struct{ names, want string }{
		{"+ - * div mod < =", "(-> Int (-> Int Int))"}, {"f+ f- f* f/", "(-> Float (-> Float Float))"}, {"f< f=", "(-> Float (-> Float Int))"}, {"float", "(-> Int Float)"}, {"whole", "(-> Float Int)"}, {"seq", "(-> a (-> b b))"},
		{"f > f> fdiv fmod Float Int fl flo floats whol wholes se seqs SEQ a b main C P / f++ +f ++ <= >= -> _ fail case", ""},
	}
	seen := 0
	for _, x := range table {
		for _, name := range strings.Fields(x.names) {
			got, ok := infer.Prim(name)
			wantGiven(t, name, got, ok, x.want)
			if ok {
				seen++
			}
		}
	}
	if seen != len(num.Prims()) {
		t.Error(seen)
	}
	for _, name := range append(num.Prims(), "", " ", " +", "+ ", "+\x00", "\u00f7", strings.Repeat("+", 1<<16)) {
		got, ok := infer.Prim(name)
		n, is := num.Arity(name)
		if ok != is || strings.Count(types.Text(got), "->") != n {
			t.Errorf("%.100q: %q, %v", name, types.Text(got), ok)
		}
	}
}

func TestCons(t *testing.T) {
	for _, x := range []struct{ data, name, want string }{
		{"(data T A)", "A", "T"}, {"(data T a A)", "A", "(T a)"}, {"(data T b A)", "A", "(T a)"}, {"(data T x y A)", "A", "(T a b)"}, {"(data T (A Int))", "A", "(-> Int T)"}, {"(data T (A Int Float T))", "A", "(-> Int (-> Float (-> T T)))"}, {"(data T (A T) B)", "B", "T"}, {"(data T B (A T))", "A", "(-> T T)"},
		{"(data L a (C a (L a)) N)", "C", "(-> a (-> (L a) (L a)))"}, {"(data L a (C a (L a)) N)", "N", "(L a)"}, {"(data M q A (B q (M Int)))", "B", "(-> a (-> (M Int) (M a)))"},
		// In the order in which they come in the type: of what it has first, then of the data.
		{"(data P a b (P b a))", "P", "(-> a (-> b (P b a)))"}, {"(data P a b (P b))", "P", "(-> a (P b a))"}, {"(data P b a (P a))", "P", "(-> a (P b a))"}, {"(data P x y z (P z z x))", "P", "(-> a (-> a (-> b (P b c a))))"}, {"(data T z (A (-> z (-> Int z))))", "A", "(-> (-> a (-> Int a)) (T a))"}, {"(data T y z (A (T (T z y) (-> z y)) y))", "A", "(-> (T (T a b) (-> a b)) (-> b (T b a)))"},
		// Of another data, and of one that stands first.
		{"(data T A) (data U (B T) C)", "B", "(-> T U)"}, {"(data U a (B (T a))) (data T b (A b))", "B", "(-> (T a) (U a))"}, {"(data U a (B (T a))) (data T b (A b))", "A", "(-> a (T a))"}, {"(data T T)", "T", "T"}, {"(data T U) (data U (T U))", "T", "(-> U U)"}, {"(data T Int)", "Int", "T"},
		{"(data T A) (data U (A Int))", "A", "T"}, {"(data U (A Int)) (data T A)", "A", "(-> Int U)"}, {"(data T A (A Int))", "A", "T"}, {"(data T A) (data T (B T))", "B", "(-> T T)"},
		// Whatever else is wrong with the program.
		{"(data T (A b))", "A", "(-> a T)"}, {"(data T a (A U b a)) (def f x) (def f y)", "A", "(-> U (-> a (-> b (T b))))"}, {"(data T a a (A a))", "A", "(-> a (T a a))"}, {"(data Int (A (Int T)))", "A", "(-> (Int T) Int)"}, {"(def main (1 1)) (data T (A T))", "A", "(-> T T)"},
		// None.
		{"(data T A)", "B", ""}, {"(data T A)", "T", ""}, {"(data T A)", "a", ""}, {"(data T A)", "", ""}, {"(data T A)", "AA", ""}, {"(data T a A)", "a", ""}, {"", "A", ""}, {"(def main 1)", "main", ""}, {"(data T A)", "Int", ""}, {"(data T)", "T", ""}, {"(data T A)", "->", ""}, {"(data T A)", "+", ""}, {"(data T A)", "A ", ""},
	} {
		got, ok := infer.Cons(read(t, x.data), x.name)
		wantGiven(t, x.data+" "+x.name, got, ok, x.want)
	}
}

func TestConsOfManyAndLarge(t *testing.T) {
	// As many constructors, of as many types, of as many parameters, as there may be.
	sixty := params(60)
	s := "(data T" + sixty
	for i := range 60 {
		s += " (C" + string(rune('A'+i/26)) + string(rune('A'+i%26)) + " p59" + strings.Repeat(" p0", 59) + ")"
	}
	p := read(t, s+")")
	want := "(-> a " + strings.Repeat("(-> b ", 59) + "(T b"
	names := "cdefghijklmnopqrstuvwxyz"
	for i := range 58 {
		name := "a1 b1 c1 d1 e1 f1 g1 h1 i1 j1 k1 l1 m1 n1 o1 p1 q1 r1 s1 t1 u1 v1 w1 x1 y1 z1 a2 b2 c2 d2 e2 f2 g2 h2"
		if i < len(names) {
			want += " " + names[i:i+1]
		} else {
			want += " " + strings.Fields(name)[i-len(names)]
		}
	}
	want += " a)" + strings.Repeat(")", 60)
	for _, name := range []string{"CAA", "CAZ", "CCH"} {
		got, ok := infer.Cons(p, name)
		wantGiven(t, name, got, ok, want)
	}
	// Larger and deeper than a program may have, in one made by hand.
	deep := api.Type{Name: "x"}
	for range 1 << 15 {
		deep = api.Type{Name: "L", Args: []api.Type{deep}}
	}
	wide := api.Type{Name: "T", Args: make([]api.Type, 3*api.MaxSize)}
	for i := range wide.Args {
		wide.Args[i] = api.Type{Name: "q"}
	}
	p = api.Program{Datas: []api.Data{{Name: "D", Params: []string{"x", "q"}, Cons: []api.Cons{{Name: "A", Args: []api.Type{deep}}, {Name: "B", Args: []api.Type{wide, deep, wide}}}}}}
	got, ok := infer.Cons(p, "A")
	wantGiven(t, "deep", got, ok, "(-> "+strings.Repeat("(L ", 1<<15)+"a"+strings.Repeat(")", 1<<15)+" (D a b))")
	got, ok = infer.Cons(p, "B")
	row := "(T" + strings.Repeat(" a", 3*api.MaxSize) + ")"
	wantGiven(t, "wide", got, ok, "(-> "+row+" (-> "+strings.Repeat("(L ", 1<<15)+"b"+strings.Repeat(")", 1<<15)+" (-> "+row+" (D b a))))")
}

// Types that go on without an end, or that are beyond all that may be when they are written out.
func TestConsEnds(t *testing.T) {
	one, two, twice := make([]api.Type, 1), make([]api.Type, 2), []api.Type{{Name: "a"}}
	one[0] = api.Type{Name: "T", Args: one}
	for i := range two {
		two[i] = api.Type{Name: "T", Args: two}
	}
	for range 190 {
		x := api.Type{Name: "P", Args: twice}
		twice = []api.Type{x, x}
	}
	for i, args := range [][]api.Type{one, two, twice, {{Name: "Int"}, {Name: "T", Args: two}}} {
		p := api.Program{Datas: []api.Data{{Name: "T", Cons: []api.Cons{{Name: "N"}, {Name: "A", Args: args}}}}}
		got, ok := infer.Cons(p, "A")
		if ok || !reflect.DeepEqual(got, api.Type{}) {
			t.Error(i, got.Name, ok)
		}
		got, ok = infer.Cons(p, "N")
		wantGiven(t, "N", got, ok, "T")
	}
}
