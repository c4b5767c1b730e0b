package infer_test

import (
	"reflect"
	"slices"
	"strings"
	"testing"
	"unsafe"

	"gristmill/api"
	"gristmill/infer"
	"gristmill/scope"
	"gristmill/types"
)

// behind is a right program, and an expression of it, with lists that have more behind their lengths, and these lists up to there.
func behind() (p api.Program, e api.Expr, lists []any) {
	params, bound, taken, let := []string{"x", "g"}, []string{"y", "g"}, []string{"z", "g"}, []string{"w", "x"}
	alts := []api.Alt{{Take: api.TakeCon, Name: "C", Names: taken[:1], E: v("g")}, {Take: api.TakeAny, E: v("h")}}
	about, inner := []api.Expr{v("x"), v("h")}, []api.Expr{v("x"), v("w"), v("h")}
	parts := []api.Expr{cases(v("x")), v("h")}
	parts[0].L, parts[0].Alts = about[:1], alts[:1]
	args, more := []api.Type{{Name: "a"}, {Name: "b"}}, []api.Type{{Name: "Int"}, {Name: "T"}}
	args[0] = api.Type{Name: "->", Args: []api.Type{{Name: "a"}, {Name: "Int"}, {Name: "b"}}[:2]}
	cons := []api.Cons{{Name: "C", Args: args[:1]}, {Name: "D", Args: more[:1]}, {Name: "C"}}
	ofT := []string{"a", "b"}
	datas := []api.Data{{Name: "T", Params: ofT[:1], Cons: cons[:2]}, {Name: "T"}}
	defs := []api.Def{{Name: "f", Params: params[:1], Body: api.Expr{Op: api.Fn, Names: bound[:1], L: parts[:1]}}, {Name: "g", Body: v("main")}, {Name: "main", Body: v("main")}, {Name: "h", Body: v("f")}}
	e = api.Expr{Op: api.Let, Names: let[:1], L: []api.Expr{app(v("f"), v("main")), fn(v("w"), "q"), v("h")}[:2]}
	return api.Program{Datas: datas[:1], Defs: defs[:3]}, e, []any{params, bound, taken, let, alts, about, inner, parts, args, more, cons, ofT, datas, defs, e.L[:3], args[0].Args[:3]}
}

// told is the Texts of what the calls answer.
func told(t *testing.T, p api.Program, e api.Expr) (l []string) {
	t.Helper()
	all, err := infer.Types(p)
	x, errOfExpr := infer.Expr(p, e)
	c, isC := infer.Cons(p, "C")
	d, isD := infer.Cons(p, "D")
	s, isS := infer.Prim("seq")
	if err != nil || errOfExpr != nil || !isC || !isD || !isS {
		t.Fatal(err, errOfExpr, isC, isD, isS)
	}
	return textsOf(append(all, x, c, d, s))
}

func TestWhatIsHandedInIsNeitherChangedNorReadBehindItsLength(t *testing.T) {
	p, e, lists := behind()
	_, _, kept := behind()
	if err := scope.Check(p); err != nil {
		t.Fatal(err)
	}
	for range 3 {
		got := strings.Join(told(t, p, e), ", ")
		want := "(-> (T a) (-> b c)), a, a, (-> a (-> b c)), (-> (-> a Int) (T a)), (-> Int (T a)), (-> a (-> b b))"
		if got != want {
			t.Errorf("%s; want %s", got, want)
		}
	}
	if !reflect.DeepEqual(lists, kept) {
		t.Errorf("%v; they were %v", lists, kept)
	}
}

// span is the places of a list's memory, its spare room too.
type span struct{ from, to uintptr }

// wantApart holds that no two lists share memory.
func wantApart(t *testing.T, l ...[]api.Type) {
	t.Helper()
	var spans []span
	for _, x := range l {
		if cap(x) > 0 {
			from := uintptr(unsafe.Pointer(unsafe.SliceData(x)))
			spans = append(spans, span{from, from + uintptr(cap(x))*unsafe.Sizeof(x[0])})
		}
	}
	slices.SortFunc(spans, func(a, b span) int { return int(a.from) - int(b.from) })
	for i := 1; i < len(spans); i++ {
		if spans[i].from < spans[i-1].to {
			t.Fatalf("two of %d lists share memory", len(spans))
		}
	}
	if len(spans) < 100 {
		t.Error(len(spans))
	}
}

func TestWhatIsHandedOutIsNewMemory(t *testing.T) {
	p := read(t, "(data L a (C a (L a) (-> a Int)) N) (data P a b (P a b)) (def f x y (P x (P x y))) (def g (f (C 1))) (def h (g 1)) (def main (case (fail 1) ((C a b c) (P b (P b c)))))")
	e := readExpr(t, "(fn (x y z) (P (P x y) (P x (C x y z))))")
	var lists [][]api.Type
	for range 2 {
		all, err := infer.Types(p)
		x, errOfExpr := infer.Expr(p, e)
		if err != nil || errOfExpr != nil {
			t.Fatal(err, errOfExpr)
		}
		lists = append(lists, all)
		for _, name := range []string{"C", "N", "P"} {
			c, _ := infer.Cons(p, name)
			all = append(all, c)
		}
		for _, name := range []string{"+", "f<", "seq", "float"} {
			prim, _ := infer.Prim(name)
			all = append(all, prim)
		}
		lists = append(lists, argsOf(append(all, x)...)...)
	}
	for _, d := range p.Datas {
		for _, c := range d.Cons {
			lists = append(lists, c.Args)
			lists = append(lists, argsOf(c.Args...)...)
		}
	}
	wantApart(t, lists...)
}

// What was told of one program is nothing to the next one.
func TestCallsHangOnTheirArgumentsAlone(t *testing.T) {
	for range 3 {
		wantTypes(t, "(def f x x) (def main (f 1))", "(-> a a), Int")
		wantTypes(t, "(data T (A T)) (def f x (+ x 1)) (def main A)", "(-> Int Int), (-> T T)")
		wantTypes(t, "(data T a (A a)) (def f x (f x)) (def main A)", "(-> a b), (-> a (T a))")
		wantNoTypes(t, 1, "(def f x x) (def main (f (1 1)))")
		p := read(t, "(def f x x) (def main 1)")
		for range 3 {
			wantExprOf(t, p, v("f"), "(-> a a)")
			wantExprOf(t, p, app(v("f"), v("f")), "(-> a a)")
			wantExprOf(t, p, app(v("main"), v("f")), "")
			wantExprOf(t, p, app(v("f"), v("main")), "Int")
		}
		x, _ := infer.Prim("seq")
		x.Args[0].Name, x.Args[1].Args[1] = "Q", api.Type{Name: "Z"}
		if y, _ := infer.Prim("seq"); types.Text(y) != "(-> a (-> b b))" {
			t.Error(types.Text(y))
		}
	}
}
