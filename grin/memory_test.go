package grin_test

import (
	"cmp"
	"fmt"
	"math/rand/v2"
	"reflect"
	"slices"
	"strings"
	"testing"

	"gristmill/api"
	"gristmill/grin"
	"gristmill/steps"
)

// eachAlteration makes one alteration in p, calls see, and takes it back; one for each number, text and list.
func eachAlteration(p *grin.Prog, see func(what string)) { alter(reflect.ValueOf(p).Elem(), "p", see) }

func alter(v reflect.Value, what string, see func(what string)) {
	kept := reflect.ValueOf(v.Interface())
	try := func(how string, x any) {
		v.Set(reflect.ValueOf(x).Convert(v.Type()))
		see(what + how)
		v.Set(kept)
	}
	switch v.Kind() {
	case reflect.Int, reflect.Int64:
		try(" more", v.Int()+1)
		try(" below", -v.Int()-1)
	case reflect.String:
		try(" longer", v.String()+"x")
		try(" none", "")
	case reflect.Struct:
		for i := range v.NumField() {
			alter(v.Field(i), what+"."+v.Type().Field(i).Name, see)
		}
	case reflect.Slice:
		for i := range v.Len() {
			alter(v.Index(i), fmt.Sprint(what, "[", i, "]"), see)
		}
		if n := v.Len(); n > 0 {
			try(" shorter", v.Slice(0, n-1).Interface())
		}
		longer := reflect.MakeSlice(v.Type(), v.Len()+1, v.Len()+1)
		reflect.Copy(longer, v)
		try(" longer", longer.Interface())
	}
}

// spare gives each list room behind its length, with something in it.
func spare(v reflect.Value) {
	switch v.Kind() {
	case reflect.Struct:
		for i := range v.NumField() {
			spare(v.Field(i))
		}
	case reflect.Slice:
		for i := range v.Len() {
			spare(v.Index(i))
		}
		l := reflect.MakeSlice(v.Type(), v.Len()+2, v.Len()+2)
		reflect.Copy(l, v)
		switch x := l.Index(v.Len()).Addr().Interface().(type) {
		case *string:
			*x = "BEHIND"
		case *api.Func:
			*x = fn("BEHIND", nil, do(api.DoEval, api.Val{}))
		case *api.Step:
			*x = api.Step{Op: api.DoNode, To: "BEHIND"}
		case *api.Branch:
			*x = api.Branch{Tag: con("BEHIND", 0)}
		case *api.Val:
			x.Name = "BEHIND"
		}
		v.Set(l.Slice(0, v.Len()))
	}
}

// dump is all that v has, behind the lengths of its lists, too.
func dump(v reflect.Value) string {
	s := ""
	switch v.Kind() {
	case reflect.Struct:
		for i := range v.NumField() {
			s += dump(v.Field(i)) + ","
		}
		return "{" + s + "}"
	case reflect.Slice:
		for i := range v.Cap() {
			s += dump(v.Slice(0, v.Cap()).Index(i)) + ","
		}
		return fmt.Sprint("[", v.Len(), s, "]")
	}
	return fmt.Sprintf("%#v", v.Interface())
}

// samples is programs that may be, and some that may not.
func samples() []grin.Prog {
	l := []grin.Prog{rich(), with(ret("x")), with(ret("y")), with(choose(v("x")[0])), {}, of(api.Func{})}
	w := steps.Writer{Chance: rand.New(rand.NewPCG(15, 1))}
	for range 100 {
		l = append(l, of(w.Program()...))
	}
	return l
}

func TestWhatIsHandedInIsNeitherChangedNorReadBehindItsLength(t *testing.T) {
	for _, p := range samples() {
		q := grin.Clone(p)
		spare(reflect.ValueOf(&q).Elem())
		kept := dump(reflect.ValueOf(q))
		if a, b := fmt.Sprint(grin.Valid(p)), fmt.Sprint(grin.Valid(q)); a != b {
			t.Errorf("%v: Valid is %s; it was %s", p, b, a)
		}
		if !grin.Same(p, q) || !grin.Same(q, p) || grin.Plain(p) != grin.Plain(q) {
			t.Errorf("%v: what lies behind its lists was read", p)
		}
		if place, ok := grin.Find(q, "BEHIND"); place != 0 || ok {
			t.Errorf("%v: Find: %d, %v", p, place, ok)
		}
		for k, f := range q.Funcs {
			if !slices.Equal(grin.Vars(f), grin.Vars(p.Funcs[k])) || grin.Sites(f) != grin.Sites(p.Funcs[k]) {
				t.Errorf("%v: what lies behind its lists was read", f)
			}
		}
		if c := grin.Clone(q); strings.Contains(dump(reflect.ValueOf(c)), "BEHIND") {
			t.Errorf("%v: what lies behind its lists was read", p)
		}
		if !strings.Contains(kept, "BEHIND") || dump(reflect.ValueOf(q)) != kept {
			t.Errorf("%v has changed", p)
		}
	}
}

// memory is a list's memory, spare room too.
type memory struct{ from, to uintptr }

func memories(v reflect.Value) (l []memory) {
	switch v.Kind() {
	case reflect.Struct:
		for i := range v.NumField() {
			l = append(l, memories(v.Field(i))...)
		}
	case reflect.Slice:
		if v.Cap() > 0 {
			l = append(l, memory{v.Pointer(), v.Pointer() + uintptr(v.Cap())*v.Type().Elem().Size()})
		}
		for i := range v.Len() {
			l = append(l, memories(v.Index(i))...)
		}
	}
	return l
}

// wantApart is that no two lists share memory.
func wantApart(t *testing.T, l ...any) {
	t.Helper()
	var all []memory
	for _, x := range l {
		all = append(all, memories(reflect.ValueOf(x))...)
	}
	slices.SortFunc(all, func(a, b memory) int { return cmp.Compare(a.from, b.from) })
	for k := range all[:max(len(all)-1, 0)] {
		if all[k].to > all[k+1].from {
			t.Errorf("two lists share memory")
			return
		}
	}
}

func TestWhatIsHandedOutIsNewMemory(t *testing.T) {
	for _, p := range samples() {
		p = grin.Clone(p)
		all := []any{p, grin.Clone(p), grin.Clone(p)}
		for _, f := range p.Funcs {
			all = append(all, grin.Vars(f), grin.Vars(f))
		}
		wantApart(t, all...)
	}
	// Of a list that stands at many places each has its own.
	l := []api.Step{do(api.DoApply, v("x", "y")...), ret("x")}
	alts := []api.Branch{other(l...), other(l...)}
	f := fn("f", []string{"a", "b"}, choose(v("x")[0], alts...), choose(l[0].Vals[0], alts...))
	wantApart(t, grin.Clone(of(f, f)), grin.Vars(f), f.Params)
}

func TestWhatIsHandedInIsNotKept(t *testing.T) {
	p := with(whole("y"), ret("y"))
	q := grin.Clone(p)
	l := grin.Vars(p.Funcs[0])
	wantValid(t, p)
	p.Funcs[0].Steps[1].To = "z"
	p.Funcs[3].Params[0] = "z"
	if !slices.Equal(l, []string{"x", "y"}) || !slices.Equal(grin.Vars(p.Funcs[0]), []string{"x", "z"}) || grin.Same(p, q) {
		t.Error(l)
	}
	wantError(t, 0, api.ErrBound, p)
	wantValid(t, q)
	p.Funcs[0].Name = "f"
	if _, ok := grin.Find(p, "main"); ok {
		t.Error("there is a main")
	}
}
