package gen_test

import (
	"cmp"
	"fmt"
	"math/rand/v2"
	"reflect"
	"slices"
	"testing"

	"gristmill/api"
	"gristmill/gen"
	"gristmill/grin"
	"gristmill/lift"
	"gristmill/programs"
	"gristmill/syn"
)

// spare gives each list room behind its length, with something in it that would be told.
func spare(v reflect.Value) {
	switch v.Kind() {
	case reflect.Struct:
		for k := range v.NumField() {
			spare(v.Field(k))
		}
	case reflect.Slice:
		for k := range v.Len() {
			spare(v.Index(k))
		}
		l := reflect.MakeSlice(v.Type(), v.Len()+2, v.Len()+2)
		reflect.Copy(l, v)
		for k := v.Len(); k < v.Len()+2; k++ {
			switch x := l.Index(k).Addr().Interface().(type) {
			case *string:
				*x = "behind"
			case *api.Expr:
				*x = api.Expr{Op: api.Fn, Name: "behind"}
			case *api.Alt:
				*x = api.Alt{Take: api.TakeAny, E: api.Expr{Op: api.Fn, Name: "behind"}}
			case *api.Def:
				x.Name = "behind"
			case *api.Data:
				x.Name = "behind"
			case *api.Cons:
				x.Name = "behind"
			case *api.Type:
				x.Name = "behind"
			}
		}
		v.Set(l.Slice(0, v.Len()))
	}
}

// dump is all that v has, behind the lengths of its lists, too.
func dump(v reflect.Value) string {
	s := ""
	switch v.Kind() {
	case reflect.Struct:
		for k := range v.NumField() {
			s += dump(v.Field(k)) + ","
		}
		return "{" + s + "}"
	case reflect.Slice:
		for k := range v.Cap() {
			s += dump(v.Slice(0, v.Cap()).Index(k)) + ","
		}
		return fmt.Sprint("[", v.Len(), s, "]")
	}
	return fmt.Sprintf("%#v", v.Interface())
}

// samples is programs of all that there is.
func samples(t *testing.T) []api.Program {
	l := []api.Program{
		read(t, "(def main 3)"), read(t, lists+"(def main (C 1 main))"), chains(t, 2, 3), read(t, "(def k x y x) (def main "+lets(70, "(k (k 1 "+sum(70)+") "+sum(70)+")")+")"),
		read(t, "(data T (T Int Int)) (def f x y (T y x)) (def one 1) (def main (let ((a (f b)) (b (a one))) (case (f b a) ((T x y) (let ((g (T x)) (h (g y))) (case (case x (1 2) (_ y)) (1 (f 1 2)) (_ h)))))))"),
	}
	w := programs.Writer{Chance: rand.New(rand.NewPCG(16, 4)), Wrong: 30}
	for range 100 {
		p, err := lift.Lift(read(t, w.Program()))
		if err != nil {
			t.Fatal(err)
		}
		l = append(l, p)
	}
	return l
}

func TestWhatIsHandedInIsNeitherChangedNorReadBehindItsLength(t *testing.T) {
	for _, p := range samples(t) {
		q := syn.Clone(p)
		spare(reflect.ValueOf(&q).Elem())
		kept := dump(reflect.ValueOf(q))
		for range 2 {
			if !grin.Same(generated(t, p), generated(t, q)) {
				t.Error("what lies behind its lists was read")
			}
		}
		if dump(reflect.ValueOf(q)) != kept {
			t.Error("it has changed")
		}
	}
}

// memory is a list's memory, spare room too.
type memory struct{ from, to uintptr }

func memories(v reflect.Value) (l []memory) {
	switch v.Kind() {
	case reflect.Struct:
		for k := range v.NumField() {
			l = append(l, memories(v.Field(k))...)
		}
	case reflect.Slice:
		if v.Cap() > 0 {
			l = append(l, memory{v.Pointer(), v.Pointer() + uintptr(v.Cap())*v.Type().Elem().Size()})
		}
		for k := range v.Len() {
			l = append(l, memories(v.Index(k))...)
		}
	}
	return l
}

// No two lists share memory, of one answer, of two, or of what was handed in.
func TestWhatIsHandedOutIsNewMemory(t *testing.T) {
	for _, p := range samples(t) {
		var all []memory
		for _, x := range []any{p, generated(t, p), generated(t, p)} {
			all = append(all, memories(reflect.ValueOf(x))...)
		}
		slices.SortFunc(all, func(a, b memory) int { return cmp.Compare(a.from, b.from) })
		for k := range len(all) - 1 {
			if all[k].to > all[k+1].from {
				t.Fatal("two lists share memory")
			}
		}
	}
}

// Nothing is kept from one call to the next one, and the answer is always the same.
func TestCallsHangOnTheirArgumentsAlone(t *testing.T) {
	all := samples(t)
	var kept []grin.Prog
	for _, p := range all {
		kept = append(kept, generated(t, p))
	}
	for k := range slices.Backward(all) {
		if !grin.Same(generated(t, all[k]), kept[k]) {
			t.Error("it is another one")
		}
		gen.Gen(api.Program{})
	}
}
