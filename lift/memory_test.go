package lift_test

import (
	"reflect"
	"slices"
	"testing"

	"gristmill/api"
	"gristmill/lift"
	"gristmill/syn"
)

// behind is a program with lists that have more behind their lengths, and these lists up to there.
func behind() (p api.Program, lists []any) {
	alt := func(name string, names []string, e api.Expr) api.Alt {
		return api.Alt{Take: api.TakeCon, Name: name, Names: names, E: e}
	}
	ints := []api.Type{{Name: "Int"}, {Name: "a"}, {Name: "Behind"}}
	ofTypes := []api.Type{{Name: "Int"}, {Name: "Behind"}}
	ints[0] = api.Type{Name: "T", Args: ofTypes[:1]}
	cons := []api.Cons{{Name: "C", Args: ints[:2]}, {Name: "D"}, {Name: "C"}}
	ofData := []string{"a", "behind"}
	datas := []api.Data{{Name: "T", Params: ofData[:1], Cons: cons[:2]}, {Name: "T"}}
	inner, outer, params, names, taken := []string{"x", "y"}, []string{"y", "x"}, []string{"z", "y"}, []string{"w", "x"}, []string{"u", "s", "z"}
	call := []api.Expr{v("x"), v("y"), v("z"), v("w"), v("behind")}
	ofInner, ofOuter := []api.Expr{app(call[:4]...), v("behind")}, []api.Expr{{}, v("behind")}
	ofOuter[0] = fn(ofInner[0], "x")
	ofOuter[0].Names, ofOuter[0].L = inner[:1], ofInner[:1]
	alts := []api.Alt{alt("C", taken[:2], v("s")), alt("D", nil, v("w")), alt("D", nil, v("behind"))}
	about, in := []api.Expr{v("z"), v("behind")}, []api.Expr{{}, {}, v("behind")}
	in[0], in[1] = api.Expr{Op: api.Fn, Names: outer[:1], L: ofOuter[:1]}, api.Expr{Op: api.Case, L: about[:1], Alts: alts[:2]}
	defs := []api.Def{{Name: "g", Params: params[:1], Body: api.Expr{Op: api.Let, Names: names[:1], L: in[:2]}}, {Name: "main", Body: v("g")}, {Name: "main"}}
	return api.Program{Datas: datas[:1], Defs: defs[:2]}, []any{ints, ofTypes, cons, ofData, datas, inner, outer, params, names, taken, call, ofInner, ofOuter, alts, about, in, defs}
}

func TestWhatIsHandedInIsNeitherChangedNorReadBehindItsLength(t *testing.T) {
	p, lists := behind()
	_, kept := behind()
	const want = "(data T a (C (T Int) a) D)\n(def g z (let ((w (f z w))) (case z ((C u s) s) (D w))))\n(def main g)\n(def f v v_1 y (f_1 y v v_1))\n(def f_1 v v_1 v_2 x (x v v_1 v_2))\n"
	for range 3 {
		if got := syn.Text(wantLifted(t, p)); got != want {
			t.Error(got)
		}
		if lift.Flat(p) {
			t.Error("a Fn")
		}
	}
	if !reflect.DeepEqual(lists, kept) {
		t.Errorf("%v; they were %v", lists, kept)
	}
}

// marker writes its own number into all of a list, the spare room too; again is whether it still stands there.
type marker struct {
	write func(n int64)
	again func(n int64) bool
}

func markerOf[T any](l []T, at func(*T) *int64) marker {
	l = l[:cap(l)]
	return marker{
		write: func(n int64) {
			for i := range l {
				*at(&l[i]) = n
			}
		},
		again: func(n int64) bool {
			return !slices.ContainsFunc(l, func(x T) bool { return *at(&x) != n })
		},
	}
}

// markerOfTexts is one of a list of texts, or of what has a text.
func markerOfTexts[T any](l []T, at func(*T) *string) marker {
	l = l[:cap(l)]
	text := func(n int64) string { return string(rune(n)) }
	return marker{
		write: func(n int64) {
			for i := range l {
				*at(&l[i]) = text(n)
			}
		},
		again: func(n int64) bool {
			return !slices.ContainsFunc(l, func(x T) bool { return *at(&x) != text(n) })
		},
	}
}

func markerOfNames(l []string) marker {
	return markerOfTexts(l, func(s *string) *string { return s })
}

func markersOfTypes(l []api.Type) []marker {
	out := []marker{markerOfTexts(l, func(t *api.Type) *string { return &t.Name })}
	for _, t := range l {
		out = append(out, markersOfTypes(t.Args)...)
	}
	return out
}

func markersOfExpr(e api.Expr) []marker {
	out := []marker{markerOfNames(e.Names), markerOf(e.L, func(e *api.Expr) *int64 { return &e.N }), markerOf(e.Alts, func(a *api.Alt) *int64 { return &a.N })}
	for _, part := range e.L {
		out = append(out, markersOfExpr(part)...)
	}
	for _, a := range e.Alts {
		out = append(append(out, markerOfNames(a.Names)), markersOfExpr(a.E)...)
	}
	return out
}

// markersOf is those of all lists of the program.
func markersOf(p api.Program) []marker {
	out := []marker{markerOfTexts(p.Datas, func(d *api.Data) *string { return &d.Name }), markerOfTexts(p.Defs, func(d *api.Def) *string { return &d.Name })}
	for _, d := range p.Datas {
		out = append(out, markerOfNames(d.Params), markerOfTexts(d.Cons, func(c *api.Cons) *string { return &c.Name }))
		for _, c := range d.Cons {
			out = append(out, markersOfTypes(c.Args)...)
		}
	}
	for _, d := range p.Defs {
		out = append(append(out, markerOfNames(d.Params)), markersOfExpr(d.Body)...)
	}
	return out
}

// No list shows what is written into another one, of the same answer, of another one, or handed in.
func TestWhatIsHandedOutIsNewMemory(t *testing.T) {
	p := read(t, "(data T a b (C a (T b (T a b)) b) D (E (-> a b))) (data U (F U) (G (T U U) U))"+
		"(def g x y (fn (z w) (case x ((C a b c) (fn (d e) (a b d e (fn (h) (h z w y))))) (1 (fn (h i) (h 1 2))) (_ D))))"+
		"(def main (let ((a (fn (x) (b x))) (b (fn (x y) (+ 1 (a x))))) (g a b (fn (x) (E (fn (y) (x y a b)))))))")
	kept := syn.Clone(p)
	want := syn.Text(wantLifted(t, p))
	markers := markersOf(p)
	for range 3 {
		markers = append(markers, markersOf(wantLifted(t, p))...)
	}
	handedIn := len(markersOf(p))
	for i, m := range markers[handedIn:] {
		m.write(int64(handedIn + i))
	}
	if !syn.Same(p, kept) || syn.Text(wantLifted(t, p)) != want {
		t.Error("what was handed in has changed, or what is made of it")
	}
	for i, m := range markers[:handedIn] {
		m.write(int64(i))
	}
	for i, m := range markers {
		if !m.again(int64(i)) {
			t.Fatalf("two of %d lists share memory", len(markers))
		}
	}
	if len(markers) < 500 {
		t.Error(len(markers))
	}
}

// What was made of one program is nothing to the next one.
func TestCallsHangOnTheirArgumentsAlone(t *testing.T) {
	a, b := read(t, "(def f x (fn (y) (x y))) (def main (let ((v 1)) (fn (x) v)))"), read(t, "(def main (fn (x) (fn (y) (x y))))")
	wantA, wantB := wantLifted(t, a), wantLifted(t, b)
	for range 20 {
		if got := wantLifted(t, a); !syn.Same(got, wantA) {
			t.Error(syn.Text(got))
		}
		wantMany(t, read(t, "(def main (let ("+row(60, "(a? 1)")+") (fn (z) (z "+row(60, "a?")+"))))"))
		if got := wantLifted(t, b); !syn.Same(got, wantB) {
			t.Error(syn.Text(got))
		}
	}
}
