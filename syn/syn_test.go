package syn_test

import (
	"fmt"
	"reflect"
	"slices"
	"strings"
	"testing"

	"gristmill/api"
	"gristmill/syn"
)

// rich has each field of each type, with more than one in each list.
func rich() api.Program {
	x := vr("x")
	e := api.Expr{Op: 1, Name: "n", N: 2, Names: []string{"a", "b"}, L: []api.Expr{x, app(x, fn("x y", x))}, Alts: []api.Alt{{Take: 1, Name: "C", N: 3, Names: []string{"c", "d"}, E: let("x y", x, x, x)}, ofAny(cases(x, ofAny(x), ofInt(1, x)))}}
	return api.Program{
		Datas: []api.Data{data("T", "a b", cons("C", ty("a"), ty("T", ty("b", ty("c")), ty("d"))), cons("D", ty("e"))), data("U", "c d", cons("E"), cons("F", ty("f")))},
		Defs:  []api.Def{def("f", "x y", e), def("g", "z w", x)},
	}
}

// eachAlteration calls check while one field of v, or the length of one list, is another one.
func eachAlteration(v reflect.Value, check func(what string)) {
	alter := func(what string, to reflect.Value) {
		kept := reflect.New(v.Type()).Elem()
		kept.Set(v)
		v.Set(to)
		check(what)
		v.Set(kept)
	}
	switch v.Kind() {
	case reflect.Struct:
		for i := range v.NumField() {
			eachAlteration(v.Field(i), check)
		}
	case reflect.Slice:
		for i := range v.Len() {
			eachAlteration(v.Index(i), check)
		}
		longer := reflect.Append(v.Slice3(0, v.Len(), v.Len()), reflect.New(v.Type().Elem()).Elem())
		alter("longer", longer)
		if v.Len() > 0 {
			alter("shorter", v.Slice(0, v.Len()-1))
			alter("without the first", v.Slice(1, v.Len()))
			alter("none", reflect.Zero(v.Type()))
		}
	case reflect.String:
		alter("a text", reflect.ValueOf(v.String()+"x"))
	default:
		alter("a number", reflect.ValueOf(v.Int()+1).Convert(v.Type()))
	}
}

func TestSame(t *testing.T) {
	p, q := rich(), rich()
	if !syn.Same(p, q) || !syn.Same(api.Program{}, api.Program{}) || syn.Same(p, api.Program{}) || syn.Same(api.Program{}, p) {
		t.Fatal("two programs as they are made")
	}
	n := 0
	eachAlteration(reflect.ValueOf(&q).Elem(), func(what string) {
		n++
		if syn.Same(p, q) || syn.Same(q, p) {
			t.Errorf("%s: the Same as %s", show(q), what)
		}
	})
	if n < 200 || !syn.Same(p, q) {
		t.Errorf("%d alterations", n)
	}
	for _, d := range []api.Program{{Datas: []api.Data{p.Datas[1], p.Datas[0]}, Defs: p.Defs}, {Datas: p.Datas, Defs: []api.Def{p.Defs[1], p.Defs[0]}}} {
		if syn.Same(p, d) {
			t.Error("in another order")
		}
	}
}

// emptied has an empty list for each nil one.
func emptied(v reflect.Value) {
	switch v.Kind() {
	case reflect.Struct:
		for i := range v.NumField() {
			emptied(v.Field(i))
		}
	case reflect.Slice:
		if v.Len() == 0 {
			v.Set(reflect.MakeSlice(v.Type(), 0, 3))
		}
		for i := range v.Len() {
			emptied(v.Index(i))
		}
	}
}

func TestNilAndTheEmptyListAreTheSame(t *testing.T) {
	m := &maker{state: 5}
	for range 300 {
		p := m.program()
		q := syn.Clone(p)
		emptied(reflect.ValueOf(&q).Elem())
		if !syn.Same(p, q) || !syn.Same(q, p) || syn.Valid(q) != nil || syn.Text(q) != syn.Text(p) || syn.Size(q) != syn.Size(p) || !syn.Same(syn.Clone(q), p) {
			t.Fatalf("%s", show(p))
		}
	}
}

// memory is a list's memory, spare room too.
type memory struct{ from, to uintptr }

func memories(v reflect.Value) (l []memory) {
	switch v.Kind() {
	case reflect.Struct:
		for i := range v.NumField() {
			l = append(l, memories(v.Field(i))...)
		}
	case reflect.Slice:
		if v.Cap() > 0 {
			l = append(l, memory{v.Pointer(), v.Pointer() + uintptr(v.Cap())*v.Type().Elem().Size()})
		}
		for i := range v.Len() {
			l = append(l, memories(v.Index(i))...)
		}
	}
	return l
}

// wantApart is that no two lists share memory.
func wantApart(t *testing.T, what string, l ...api.Program) {
	t.Helper()
	var all []memory
	for i := range l {
		all = append(all, memories(reflect.ValueOf(&l[i]).Elem())...)
	}
	slices.SortFunc(all, func(a, b memory) int {
		if a.from < b.from {
			return -1
		}
		return 1
	})
	for i := range all[1:] {
		if all[i].to > all[i+1].from {
			t.Errorf("%s: two lists share memory", what)
			return
		}
	}
}

func TestCloneIsNewMemory(t *testing.T) {
	m := &maker{state: 11}
	for range 200 {
		p := api.Program{Datas: append(rich().Datas, m.program().Datas...), Defs: append(rich().Defs, m.program().Defs...)}
		p = syn.Clone(p)
		q := syn.Clone(p)
		if !syn.Same(p, q) || !reflect.DeepEqual(p, q) {
			t.Fatalf("%s: its Clone is %s", show(p), show(q))
		}
		wantApart(t, "Clone", p, q)
	}
	// The same list at many places becomes a list for each.
	l, names, args := many(2, vr("x")), []string{"x"}, many(2, ty("a"))
	p := api.Program{Datas: many(2, api.Data{Name: "T", Params: names, Cons: many(2, cons("C", args...))}), Defs: many(2, api.Def{Name: "f", Params: names, Body: api.Expr{Op: api.App, Names: names, L: l, Alts: many(2, api.Alt{Names: names, E: app(l...)})}})}
	wantApart(t, "Clone of shared lists", syn.Clone(p))
}

func TestCloneOfNothing(t *testing.T) {
	if p := syn.Clone(api.Program{}); len(p.Datas) > 0 || len(p.Defs) > 0 {
		t.Error(p)
	}
}

func TestCloneOfAnyProgram(t *testing.T) {
	p := rich()
	eachAlteration(reflect.ValueOf(&p).Elem(), func(what string) {
		if q := syn.Clone(p); !syn.Same(p, q) || !syn.Same(q, p) {
			t.Errorf("%s: its Clone is %s", show(p), show(q))
		}
	})
}

const richText = "(data T a b (C a (T b c)) D (E (-> a b) Int)) (data U) (def f x y (let ((x (+ 1 2)) (y (fn (x y) (x y)))) (case x ((C x y) (y x (fail 1))) (D 2) (1 x) (_ (case y (_ 3p0)))))) (def g h)"

func TestParseIsNewMemory(t *testing.T) {
	p, err := syn.Parse(richText)
	q, _ := syn.Parse(richText)
	if err != nil || !syn.Same(p, q) {
		t.Fatal(err)
	}
	wantApart(t, "Parse", p, q)
}

// spare is the program with lists that have room behind their lengths, with something in it.
func spare(v reflect.Value) {
	switch v.Kind() {
	case reflect.Struct:
		for i := range v.NumField() {
			spare(v.Field(i))
		}
	case reflect.Slice:
		for i := range v.Len() {
			spare(v.Index(i))
		}
		l := reflect.MakeSlice(v.Type(), v.Len()+2, v.Len()+2)
		reflect.Copy(l, v)
		if l.Type().Elem().Kind() == reflect.String {
			l.Index(v.Len()).SetString("BEHIND")
		} else {
			l.Index(v.Len()).FieldByName("Name").SetString("BEHIND")
		}
		v.Set(l.Slice(0, v.Len()))
	}
}

// dump is all that v has, behind the lengths of its lists, too.
func dump(v reflect.Value) string {
	s := ""
	switch v.Kind() {
	case reflect.Struct:
		for i := range v.NumField() {
			s += dump(v.Field(i)) + ","
		}
		return "{" + s + "}"
	case reflect.Slice:
		for i := range v.Cap() {
			s += dump(v.Slice(0, v.Cap()).Index(i)) + ","
		}
		return fmt.Sprint(v.Len(), "[", s, "]")
	}
	return fmt.Sprintf("%#v", v.Interface())
}

func TestNoCallChangesWhatIsHandedIn(t *testing.T) {
	for _, p := range []api.Program{rich(), (&maker{state: 9}).program(), lettered(1000)} {
		spare(reflect.ValueOf(&p).Elem())
		kept := dump(reflect.ValueOf(p))
		_, _, _, _ = syn.Valid(p), syn.Text(p), syn.Size(p), syn.Same(p, p)
		q := syn.Clone(p)
		eachAlteration(reflect.ValueOf(&q).Elem(), func(string) {})
		if !strings.Contains(kept, "BEHIND") || dump(reflect.ValueOf(p)) != kept {
			t.Errorf("%s has changed", show(p))
		}
		if strings.Contains(dump(reflect.ValueOf(syn.Clone(p)))+syn.Text(p), "BEHIND") {
			t.Errorf("%s: what lies behind its lists was read", show(p))
		}
	}
}

func TestSize(t *testing.T) {
	x := vr("x")
	for _, c := range []struct {
		p    api.Program
		want int
	}{
		{api.Program{}, 0}, {body(x), 1}, {body(api.Expr{}), 1}, {defs(def("f", "x y", x), def("g", "", x)), 2}, {datas(data("T", "a b", cons("C"), cons("D"))), 0},
		{datas(data("T", "", cons("C", ty("a"), ty("T", ty("a"), ty("b"))), cons("D", ty("c"))), data("U", "", cons("C", ty("->", ty("a"), ty("->", ty("a"), ty("b")))))), 10},
		{body(app(x, x, app(x, x))), 6}, {body(fn("x y", x)), 2}, {body(let("x y", x, x, x)), 4}, {body(prim("+", x, prim("float", x))), 4}, {body(cases(x, ofAny(x), ofInt(1, app(x, x)), ofCon("C", "x y", x))), 7},
		{sized(12345), 12345}, {rich(), 22},
	} {
		if got := syn.Size(c.p); got != c.want {
			t.Errorf("Size of %s: %d; want %d", show(c.p), got, c.want)
		}
	}
	p, err := syn.Parse(richText)
	if got := syn.Size(p); got != 28 || err != nil {
		t.Errorf("Size of %s: %d, %v", show(p), got, err)
	}
}
