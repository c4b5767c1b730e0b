package infer_test

import (
	"math"
	"reflect"
	"slices"
	"strings"
	"testing"

	"gristmill/api"
	"gristmill/infer"
	"gristmill/scope"
)

// wantScope holds that Types and Expr tell just what scope.Check tells, which is want.
func wantScope(t *testing.T, p api.Program, want error) {
	t.Helper()
	told := scope.Check(p)
	if at, ok := told.(*api.At); told != want && (!ok || at.Err != want) {
		t.Fatalf("scope.Check: %v; want %v", told, want)
	}
	l, err := infer.Types(p)
	if len(l) > 0 || !reflect.DeepEqual(err, told) {
		t.Errorf("Types: %q, %v; want %v", textsOf(l), err, told)
	}
	for _, e := range []api.Expr{{Op: api.Int}, {}, v("none")} {
		x, err := infer.Expr(p, e)
		if !reflect.DeepEqual(x, api.Type{}) || !reflect.DeepEqual(err, told) {
			t.Errorf("Expr: %v, %v; want %v", x, err, told)
		}
	}
}

func TestErrorsOfScope(t *testing.T) {
	for _, x := range []struct {
		s    string
		want error
	}{
		{"", api.ErrMain}, {"(def f 1)", api.ErrMain}, {"(def main x 1)", api.ErrMain}, {"(data T)", api.ErrMain}, {"(def main x)", api.ErrNone}, {"(def main C)", api.ErrNone}, {"(data T) (def main x)", api.ErrNone}, {"(data T (C a)) (def main 1)", api.ErrNone},
		{"(def main 1) (def main 2)", api.ErrTwice}, {"(def f x x 1) (def main 1)", api.ErrTwice}, {"(data T) (data T) (def main 1)", api.ErrTwice}, {"(data T (C T)) (def main (case 1 (C 1)))", api.ErrArity}, {"(data T a (C T)) (def main 1)", api.ErrArity},
		// Ahead of all that has no type.
		{"(def main (+ 1 1p0)) (def f x)", api.ErrNone}, {"(def f (1 1))", api.ErrMain}, {"(def f (1 1)) (def main (fn (x x) 1))", api.ErrTwice},
	} {
		wantScope(t, read(t, x.s), x.want)
	}
	// Those of programs that syn.Valid does not take: alone, and around a place.
	wantScope(t, api.Program{}, api.ErrMain)
	wantScope(t, api.Program{Defs: make([]api.Def, 201)}, api.ErrMany)
	wantScope(t, api.Program{Datas: make([]api.Data, 1)}, api.ErrName)
	wantScope(t, api.Program{Datas: []api.Data{{Name: "T"}}, Defs: []api.Def{{Name: "main"}}}, api.ErrForm)
	wantScope(t, api.Program{Defs: []api.Def{{Name: "main", Body: app(v("f"))}}}, api.ErrForm)
	wantScope(t, api.Program{Defs: []api.Def{{Name: "main", Body: v("F")}}}, api.ErrName)
}

// A program that goes on without an end is one that scope.Check does not take.
func TestAllCallsEnd(t *testing.T) {
	l := make([]api.Expr, 2)
	for i := range l {
		l[i] = api.Expr{Op: api.App, L: l}
	}
	args := make([]api.Type, 2)
	for i := range args {
		args[i] = api.Type{Name: "T", Args: args}
	}
	endless := api.Program{Datas: []api.Data{{Name: "T", Cons: []api.Cons{{Name: "C", Args: args}}}}, Defs: []api.Def{{Name: "main", Body: api.Expr{Op: api.Int}}}}
	wantScope(t, endless, api.ErrMany)
	wantScope(t, api.Program{Defs: []api.Def{{Name: "main", Body: l[0]}}}, api.ErrMany)
	if x, ok := infer.Cons(endless, "C"); ok || !reflect.DeepEqual(x, api.Type{}) {
		t.Error(x.Name, ok)
	}
	if x, err := infer.Expr(read(t, "(def main 1)"), l[0]); err != api.ErrType || !reflect.DeepEqual(x, api.Type{}) {
		t.Error(x, err)
	}
	for _, op := range []int{math.MinInt, -1, 0, 11, math.MaxInt} {
		for _, n := range []int{0, 1, 3} {
			e := api.Expr{Op: op, Name: "x", Names: make([]string, n), L: make([]api.Expr, n), Alts: make([]api.Alt, n)}
			wantScope(t, api.Program{Defs: []api.Def{{Name: "main", Body: e}}}, api.ErrForm)
			if x, err := infer.Expr(read(t, "(def main 1)"), e); err != api.ErrType || !reflect.DeepEqual(x, api.Type{}) {
				t.Error(op, n, x, err)
			}
		}
	}
	wantScope(t, api.Program{Defs: []api.Def{{Name: "main", Body: api.Expr{Op: api.Case, L: make([]api.Expr, 1), Alts: []api.Alt{{Take: 4}}}}}}, api.ErrForm)
}

// The place is that of the definition among the definitions, whatever data there are.
func TestThePlaceIsOfTheDefinitionAlone(t *testing.T) {
	right := []string{"(def main 1)", "(def a 1)", "(def b x x)", "(def c y 1p0)"}
	wrong := []string{"(def main (1 1))", "(def a (1 1))", "(def b x (1 x))", "(def c y (1p0 y))"}
	for i := range 5 {
		for k := range right {
			defs := slices.Clone(right)
			defs[k] = wrong[k]
			first, last := strings.Join(defs[:2], ""), strings.Join(defs[2:], "")
			wantNoTypes(t, k, datas(i)+first+last, first+datas(i)+last, first+last+datas(i))
		}
	}
}

// datas is n data.
func datas(n int) (s string) {
	for i := range n {
		s += "(data T" + string(rune('a'+i)) + " a (C" + string(rune('a'+i)) + " a))"
	}
	return s
}

// The first one is that of the groups in their order, not that of the text.
func TestTheFirstDefinition(t *testing.T) {
	wantNoTypes(t, 0, "(def f (1 1)) (def g (1 1)) (def main 1)", "(def f (1 1)) (def g (f 1)) (def main (1 1))", "(def f (+ g 1)) (def g 1p0) (def main (1 1))")
	wantNoTypes(t, 1, "(def f (g 1)) (def g (1 1)) (def main 1)", "(def f (1 g)) (def g (1 1)) (def main 1)", "(def main (1 f)) (def f (1 1))")
	wantNoTypes(t, 2, "(def f (g 1)) (def g (h 1)) (def h (1 1)) (def main (1 1))", "(def main 1) (def f (1 h)) (def h (1 1))")
	// A use that does not fit is told of the one that uses.
	wantNoTypes(t, 1, "(def f x (+ x 1)) (def main (f 1p0))", "(def f 1) (def main (f 1))", "(def f x x) (def main (+ (f 1p0) 1)) (def g (1 1))")
	wantNoTypes(t, 0, "(def main (f 1p0)) (def f x (+ x 1))", "(def main (f f)) (def f x (+ x 1))")
	// In a group it is the first one with which those up to it have none.
	wantNoTypes(t, 0, "(def f x (+ (g 1) (g 1p0))) (def g x (f x)) (def main 1)")
	wantNoTypes(t, 1, "(def f x (+ (g 1) x)) (def g x (+ (f 1p0) 1)) (def main 1)", "(def f x (g x)) (def g x (f 1 x)) (def main 1)", "(def f x (g 1)) (def g x (f (+ x 1p0))) (def main 1)", lists+"(def a x (b (C x N))) (def b y (a y)) (def main 1)")
	wantNoTypes(t, 2, "(def f x (g x)) (def g x (h x)) (def h x (f 1 x)) (def main 1)", "(def f x (g 1)) (def main 1) (def g x (+ (f 1) (g 1p0)))", "(def f x (h 1)) (def g x (seq (f x) x)) (def h x (+ (g 1p0) x)) (def main (g 1))")
	wantNoTypes(t, 1, "(def f x (h 1)) (def g x (h 1p0)) (def h x (seq (f x) (g x))) (def main 1)")
}

// What is within itself is told wherever it is, also where nothing else is of that type.
func TestATypeWithinItself(t *testing.T) {
	loops := []string{"(fn (x) (x x))", "(fn (x) (case 1 (1 x) (_ (C x N))))", "(fn (x y) (case 1 (1 (P x y)) (2 (P y (C x N))) (3 (P x x))))", "(fn (x) (case x ((C y z) (case 1 (1 y) (_ x)))))", "(fn (f) (f f f))", "(let ((x (C x N))) 1)", "(fn (f g) (P (f g) (g f)))", "(fn (f g h) (P (f g) (P (g h) (h f))))",
		"(fn (x y z) (case 1 (1 x) (2 (C y N)) (3 (C (C z N) N)) (4 (C (C (C x N) N) N))))", "(fn (f) (case 1 (1 f) (_ (fn (x) f))))"}
	for _, loop := range loops {
		for _, s := range []string{"?", "(seq ? 1)", "(seq 1 (seq ? 1))", "((fn (x) 1) ?)", "(fn (x) (seq ? x))", "(let ((y ?)) 1)", "(let ((y 1)) (seq ? y))", "(let ((y (seq ? 1))) y)", "(let ((y (let ((w (seq ? 1))) 1))) y)", "(case 1 (1 1) (_ (seq ? 1)))", "(case ? (_ 1))", "(case (seq ? 1) (_ 1))", "((fail 1) ?)"} {
			wantNone(t, strings.ReplaceAll(s, "?", loop))
		}
	}
	// By way of many, and by definitions of a group.
	names := strings.Fields(params(60))
	chain := "(fn (" + strings.Join(names, " ") + ") ((fail 1)"
	for i, name := range names[1:] {
		chain += " (same " + names[i] + " (l " + name + "))"
	}
	chain += "))"
	loop := strings.Replace(chain, "(fail 1)", "(fail 1) (same p59 (l p0))", 1)
	wantNoTypes(t, 3, ofSize+"(def main (seq "+loop+" 1))")
	wantTypes(t, ofSize+"(def main (seq "+chain+" 1))", "(-> a (P a a)), (-> a (L a)), (-> a (-> a a)), Int")
	wantNoTypes(t, 0, "(def f x (f f)) (def main 1)")
	wantNoTypes(t, 2, "(def f x (g f)) (def g x (h g)) (def h x (seq (f (h x)) (x h))) (def main 1)")
}
