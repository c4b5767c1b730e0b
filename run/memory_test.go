package run_test

import (
	"fmt"
	"reflect"
	"testing"

	"gristmill/api"
	"gristmill/grin"
	"gristmill/obs"
	"gristmill/run"
)

// spare gives each list room behind its length, with something in it that would be told.
func spare(v reflect.Value) {
	switch v.Kind() {
	case reflect.Struct:
		for k := range v.NumField() {
			spare(v.Field(k))
		}
	case reflect.Slice:
		for k := range v.Len() {
			spare(v.Index(k))
		}
		l := reflect.MakeSlice(v.Type(), v.Len()+2, v.Len()+2)
		reflect.Copy(l, v)
		for k := v.Len(); k < v.Len()+2; k++ {
			switch x := l.Index(k).Addr().Interface().(type) {
			case *string:
				*x = "a"
			case *api.Func:
				*x = fn("main", nil, fail(77))
			case *api.Step:
				*x = fail(77)
			case *api.Branch:
				*x = other(fail(77))
			case *api.Val:
				*x = i(77)
			}
		}
		v.Set(l.Slice(0, v.Len()))
	}
}

// dump is all that v has, behind the lengths of its lists, too.
func dump(v reflect.Value) string {
	s := ""
	switch v.Kind() {
	case reflect.Struct:
		for k := range v.NumField() {
			s += dump(v.Field(k)) + ","
		}
		return "{" + s + "}"
	case reflect.Slice:
		for k := range v.Cap() {
			s += dump(v.Slice(0, v.Cap()).Index(k)) + ","
		}
		return fmt.Sprint("[", v.Len(), s, "]")
	}
	return fmt.Sprintf("%#v", v.Interface())
}

// sample is a program that does each step.
func sample() grin.Prog {
	return with(whole("x", 1), node("y", fun("pair", 2), "x", "x"), eval("z", "y"), field("u", "z", 1), do("n", api.DoOpen, "u"), prim("m", "+", v("n")[0], i(1)), box("w", wholeTag, v("m")[0]), do("s", api.DoFetch, "w"), node("f", pap("pair", 2)), do("g", api.DoApply, "f", "w", "z"), update("x", "g"),
		choose(v("z")[0], takes(con("N", 0), fail(1)), takes(con("P", 2), choose(v("m")[0], number(3, fail(2)), other(call("r", "k", "y", "x"), node("q", con("Q", 3), "r", "g", "s"), ret("q"))))))
}

const sampleText = "(Q (P (P 2 (P _ _)) (P 2 (P _ _))) (P 2 (P (P 2 _) (P 2 _))) 2)"

func TestWhatIsHandedInIsNeitherChangedNorReadBehindItsLength(t *testing.T) {
	p := sample()
	does(t, p, 4, 100)
	spare(reflect.ValueOf(&p).Elem())
	kept := dump(reflect.ValueOf(p))
	for range 3 {
		if got := run.Run(p, 4, 100); obs.Text(got.Obs) != sampleText || got.Steps != 21 {
			t.Error(obs.Text(got.Obs), got)
		}
	}
	if dump(reflect.ValueOf(p)) != kept {
		t.Error("it has changed")
	}
}

// listsOf is all lists of an observation, with their spare room.
func listsOf(o api.Obs) [][]api.Obs {
	l := [][]api.Obs{o.L[:cap(o.L)]}
	for _, part := range o.L {
		l = append(l, listsOf(part)...)
	}
	return l
}

// What is handed out is new memory: no list shows what is written into another one, though it is of one node.
func TestWhatIsHandedOutIsNewMemory(t *testing.T) {
	var all [][]api.Obs
	for range 3 {
		for _, p := range []grin.Prog{sample(), with(whole("x", 1), node("y", con("T", 3), "x", "x", "x"), node("z", con("T", 3), "y", "x", "y"), update("x", "z"), ret("x"))} {
			for depth := range 5 {
				all = append(all, listsOf(run.Run(p, depth, 100).Obs)...)
			}
		}
	}
	for k, l := range all {
		for i := range l {
			l[i].N = int64(k)
		}
	}
	for k, l := range all {
		for _, o := range l {
			if o.N != int64(k) {
				t.Fatalf("two of %d lists share memory", len(all))
			}
		}
	}
	if len(all) < 500 {
		t.Error(len(all))
	}
}

// Nothing is kept from one call to the next one.
func TestCallsHangOnTheirArgumentsAlone(t *testing.T) {
	p, other := sample(), with(call("x", "bad"), ret("x"))
	want := run.Run(p, 4, 100)
	for range 3 {
		if got := run.Run(p, 4, 100); !reflect.DeepEqual(got, want) {
			t.Error(got)
		}
		if got := run.Run(other, 4, 100); obs.Text(got.Obs) != "!9" || got.Steps != 2 {
			t.Error(got)
		}
		if got := run.Run(p, 4, 20); !reflect.DeepEqual(got, run.Out{How: api.OutOfFuel, Steps: 20}) {
			t.Error(got)
		}
	}
	p.Funcs[len(p.Funcs)-1].Steps[0].Vals[0].N = 2
	if got := run.Run(p, 4, 100); reflect.DeepEqual(got, want) {
		t.Error("what was handed in was kept")
	}
}
