package mean_test

import (
	"reflect"
	"testing"

	"gristmill/api"
	"gristmill/obs"
	"gristmill/scope"
)

// behind is a right program, and an expression of it, with lists that have more behind their lengths, and these lists up to there.
func behind() (p api.Program, e api.Expr, lists []any) {
	params, bound, taken, names := []string{"x", "g"}, []string{"y", "n"}, []string{"z", "w", "n"}, []string{"w", "n"}
	alts := []api.Alt{{Take: api.TakeCon, Name: "C", Names: taken[:2], E: app(con("C"), v("z"), v("n"))}, {Take: api.TakeAny, E: v("main")}}
	about := []api.Expr{v("x"), v("main")}
	parts := []api.Expr{{Op: api.Case, L: about[:1], Alts: alts[:1]}, v("main")}
	args := []api.Type{{Name: "Int"}, {Name: "T"}, {Name: "T"}}
	cons := []api.Cons{{Name: "C", Args: args[:2]}, {Name: "D"}, {Name: "E"}}
	datas := []api.Data{{Name: "T", Cons: cons[:2]}, {Name: "U", Cons: cons[2:]}}
	sum := []api.Expr{{Op: api.Int, N: 1}, {Op: api.Int, N: 2}, v("main")}
	call := []api.Expr{v("f"), app(con("C"), v("n"), con("D")), {Op: api.Int, N: 7}, v("main")}
	defs := []api.Def{{Name: "f", Params: params[:1], Body: api.Expr{Op: api.Fn, Names: bound[:1], L: parts[:1]}}, {Name: "n", Body: api.Expr{Op: api.Prim, Name: "+", L: sum[:2]}}, {Name: "main", Body: api.Expr{Op: api.App, L: call[:3]}}, {Name: "h", Body: v("main")}}
	in := []api.Expr{app(con("C"), v("n"), v("w")), v("w"), v("main")}
	e = api.Expr{Op: api.Let, Names: names[:1], L: in[:2]}
	return api.Program{Datas: datas[:1], Defs: defs[:3]}, e, []any{params, bound, taken, names, alts, about, parts, args, cons, datas, sum, call, defs, in}
}

func TestWhatIsHandedInIsNeitherChangedNorReadBehindItsLength(t *testing.T) {
	p, e, lists := behind()
	_, _, kept := behind()
	if err := scope.Check(p); err != nil {
		t.Fatal(err)
	}
	for range 3 {
		a, b := run(p, 3, 1000), runExpr(p, e, 3, 1000)
		if obs.Text(a.obs) != "(C 3 3)" || a.steps != 14 || obs.Text(b.obs) != "(C 3 (C 3 (C 3 _)))" || b.steps != 8 {
			t.Error(obs.Text(a.obs), a.steps, obs.Text(b.obs), b.steps)
		}
	}
	if !reflect.DeepEqual(lists, kept) {
		t.Errorf("%v; they were %v", lists, kept)
	}
}

// listsOf is all lists of an observation, with their spare room.
func listsOf(o api.Obs) [][]api.Obs {
	l := [][]api.Obs{o.L[:cap(o.L)]}
	for _, part := range o.L {
		l = append(l, listsOf(part)...)
	}
	return l
}

// What is handed out is new memory: no list shows what is written into another one, though it is of one tree.
func TestWhatIsHandedOutIsNewMemory(t *testing.T) {
	p := read(t, lists+"(data T (T T T T) U) (def x (T U U U)) (def y (T x x x)) (def main (let ((z (T y x y))) (T z y z)))")
	e := readExpr(t, "(T main main y)")
	var all [][]api.Obs
	for range 3 {
		for _, a := range []answer{run(p, 9, 1000), run(p, 2, 1000), runExpr(p, e, 9, 1000), runExpr(p, e, 4, 1000)} {
			if !a.is {
				t.Fatal(a)
			}
			all = append(all, listsOf(a.obs)...)
		}
	}
	for i, l := range all {
		for k := range l {
			l[k].N = int64(i)
		}
	}
	for i, l := range all {
		for _, o := range l {
			if o.N != int64(i) {
				t.Fatalf("two of %d lists share memory", len(all))
			}
		}
	}
	if len(all) < 1000 {
		t.Error(len(all))
	}
}

// What was evaluated in one call waits again in the next one.
func TestCallsHangOnTheirArgumentsAlone(t *testing.T) {
	p := read(t, lists+"(def n (+ 1 1)) (def main (P n n)) (def loop (+ n loop))")
	other := read(t, lists+"(def n 5) (def main (P n n))")
	want := run(p, 5, 100)
	for range 3 {
		if obs.Text(want.obs) != "(P 2 2)" || want.steps != 7 {
			t.Error(obs.Text(want.obs), want.steps)
		}
		wantSame(t, run(p, 5, 100), want)
		wantSame(t, runExpr(p, v("loop"), 5, 100), nothing(100))
		wantSame(t, runExpr(p, v("n"), 5, 100), answer{api.Obs{Kind: api.SeenInt, N: 2}, 4, true})
		wantSame(t, run(p, 5, 3), nothing(3))
		if got := run(other, 5, 100); obs.Text(got.obs) != "(P 5 5)" || got.steps != 5 {
			t.Error(obs.Text(got.obs), got.steps)
		}
	}
}
