package types_test

import (
	"reflect"
	"slices"
	"strings"
	"testing"
	"unsafe"

	"gristmill/api"
	"gristmill/types"
)

// span is the places of a list's memory, its spare room too.
type span struct{ from, to uintptr }

func spanOf[T any](l []T) span {
	var x T
	from := uintptr(unsafe.Pointer(unsafe.SliceData(l)))
	return span{from, from + uintptr(cap(l))*unsafe.Sizeof(x)}
}

// wantApart holds that no two lists share memory.
func wantApart[T any](t *testing.T, l ...[]T) {
	t.Helper()
	var spans []span
	for _, x := range l {
		if cap(x) > 0 {
			spans = append(spans, spanOf(x))
		}
	}
	slices.SortFunc(spans, func(a, b span) int { return int(a.from) - int(b.from) })
	for i := 1; i < len(spans); i++ {
		if spans[i].from < spans[i-1].to {
			t.Errorf("two of %d lists share memory", len(spans))
		}
	}
}

// liesIn is whether the text s, which is not empty, is a piece of the memory of t.
func liesIn(s, t string) bool {
	from, place := uintptr(unsafe.Pointer(unsafe.StringData(t))), uintptr(unsafe.Pointer(unsafe.StringData(s)))
	return from <= place && place < from+uintptr(len(t))
}

// namesOf is the names of the type and of all in it.
func namesOf(t api.Type) []string {
	l := []string{t.Name}
	for _, arg := range t.Args {
		l = append(l, namesOf(arg)...)
	}
	return l
}

// argsOf is the Args of each of the types and of all in them.
func argsOf(l ...api.Type) (out [][]api.Type) {
	for _, t := range l {
		out = append(append(out, t.Args), argsOf(t.Args...)...)
	}
	return out
}

// withMore is each type with Args, and all in it, with something behind the end of its Args.
func withMore(l []api.Type) []api.Type {
	var out []api.Type
	for _, t := range l {
		out = append(out, ty(t.Name, withMore(t.Args)...))
	}
	return append(out, ty("q", ty("q")), ty("Q"))[:len(l)]
}

// given is lists of types for the calls, with more behind all ends.
func given(t *testing.T) (a, b []api.Type, names []string) {
	a = withMore(reads(t, "(P a (P b (L Int)))", "(-> c (T d e))", "a"))
	b = withMore(reads(t, "(P (L b) (P (L (L c)) d))", "(-> e (T (L c) e))", "(L b)"))
	return a, b, []string{"b", "a", "b", "q", "e"}[:3]
}

// calls is what each call answers, the lists of types in it and those of names.
func calls(a, b []api.Type, names []string) (told []any, lists [][]api.Type, words [][]string) {
	unified, to, err := types.Unify(a, b)
	none, noTypes, clash := types.Unify(a[:1], b[1:2])
	vars := types.Vars(a...)
	all := []api.Type{types.Fun(a, b[0]), types.Fun(nil, a[0]), types.Norm(a[1]), types.Apply(b[0], names, a), types.Apply(ty("P", ty("b"), ty("b")), names, a), types.Apply(a[0], nil, nil)}
	lists = append(argsOf(append(all, to...)...), to, noTypes)
	told = []any{unified, to, err, none, noTypes, clash, vars, all, types.Is(a[0]), types.Same(a[0], a[0]), types.Same(a[0], b[0]), types.Text(a[0]), types.Instance(a[0], b[0]), types.Instance(ty("P", ty("x"), ty("y")), a[0])}
	return told, lists, [][]string{unified, none, vars}
}

func TestWhatIsHandedInIsNeitherChangedNorReadBehindItsLength(t *testing.T) {
	a, b, names := given(t)
	keptA, keptB, keptNames := given(t)
	short, _, _ := calls(reads(t, strings.Split(written(a), ", ")...), reads(t, strings.Split(written(b), ", ")...), slices.Clone(names))
	for range 3 {
		if told, _, _ := calls(a, b, names); !reflect.DeepEqual(told, short) {
			t.Errorf("%v; want %v", told, short)
		}
	}
	whole := func(l [][]api.Type) (out [][]api.Type) {
		for _, x := range l {
			out = append(out, x[:cap(x)])
		}
		return out
	}
	if !reflect.DeepEqual(whole(append(argsOf(a...), a)), whole(append(argsOf(keptA...), keptA))) || !reflect.DeepEqual(whole(append(argsOf(b...), b)), whole(append(argsOf(keptB...), keptB))) || !slices.Equal(names[:5], keptNames[:5]) {
		t.Error("what was handed in is another one now")
	}
}

func TestWhatIsHandedOutIsNewMemory(t *testing.T) {
	a, b, names := given(t)
	_, first, firstNames := calls(a, b, names)
	_, second, secondNames := calls(a, b, names)
	wantApart(t, slices.Concat(first, second, argsOf(a...), argsOf(b...), [][]api.Type{a, b})...)
	wantApart(t, slices.Concat(firstNames, secondNames, [][]string{names})...)
	if n := len(first); n < 60 {
		t.Error(n)
	}
}

// What was told of some types is nothing to the next ones.
func TestCallsHangOnTheirTypesAlone(t *testing.T) {
	for range 3 {
		wantUnify(t, "a, b", "b, Int", "a b", "Int, Int", nil)
		wantUnify(t, "a", "b", "b", "a", nil)
		wantUnify(t, "b", "a", "a", "b", nil)
		want(t, "Vars", strings.Join(types.Vars(ty("P", ty("b"), ty("a"))), " "), "b a")
		want(t, "Norm", types.Text(types.Norm(ty("P", ty("b"), ty("a")))), "(P a b)")
	}
}
