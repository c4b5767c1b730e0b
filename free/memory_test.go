package free_test

import (
	"reflect"
	"slices"
	"strings"
	"testing"
	"unsafe"

	"gristmill/api"
	"gristmill/free"
)

// behind is an expression with lists that have more behind their lengths, and these lists up to there.
func behind() (e api.Expr, lists []any) {
	bound, taken, names := []string{"y", "x"}, []string{"z", "x"}, []string{"w", "x"}
	about, parts, inner := []api.Expr{v("x"), v("h")}, []api.Expr{v("x"), v("w"), v("h")}, []api.Expr{{}, v("h")}
	alts := []api.Alt{{Take: api.TakeCon, Name: "C", Names: taken[:1], E: v("x")}, {Take: api.TakeAny, E: v("y")}, {Take: api.TakeAny, E: v("h")}}
	inner[0] = api.Expr{Op: api.Case, L: about[:1], Alts: alts[:2]}
	whole := []api.Expr{{Op: api.Fn, Names: bound[:1], L: inner[:1]}, {Op: api.Let, Names: names[:1], L: parts[:2]}, v("h")}
	return api.Expr{Op: api.App, L: whole[:2]}, []any{bound, taken, names, about, parts, inner, alts, whole}
}

func TestWhatIsHandedInIsNeitherChangedNorReadBehindItsLength(t *testing.T) {
	e, lists := behind()
	by, listsOfBy := behind()
	_, kept := behind()
	const s = "((fn (y) (case x ((C z) x) (_ y))) (let ((w x)) w))"
	used := []string{"x", "x_1", "x_2", "x_3"}
	for range 3 {
		if got := strings.Join(free.Names(e), " "); got != "x" {
			t.Error(got)
		}
		if got := strings.Join(free.Bound(e), " "); got != "y z w" {
			t.Error(got)
		}
		if got := text(free.Rename(e, "x", "q")); got != strings.ReplaceAll(s, "x", "q") {
			t.Error(got)
		}
		if got := text(free.Subst(e, "x", by)); got != strings.ReplaceAll(s, "x", s) {
			t.Error(got)
		}
		if got := free.Fresh("x", used[:2]...); got != "x_2" {
			t.Error(got)
		}
		if free.Closed(e) {
			t.Error(s)
		}
	}
	if !reflect.DeepEqual(lists, kept) || !reflect.DeepEqual(listsOfBy, kept) {
		t.Errorf("%v, %v; they were %v", lists, listsOfBy, kept)
	}
	if !slices.Equal(used, []string{"x", "x_1", "x_2", "x_3"}) {
		t.Error(used)
	}
}

// span is the places of a list's memory, its spare room too.
type span struct{ from, to uintptr }

func spansOf[T any](l []T) []span {
	if cap(l) == 0 {
		return nil
	}
	from := uintptr(unsafe.Pointer(unsafe.SliceData(l)))
	return []span{{from, from + uintptr(cap(l))*unsafe.Sizeof(l[0])}}
}

// spansIn is the spans of all lists in the expressions.
func spansIn(l ...api.Expr) (spans []span) {
	for _, e := range l {
		spans = slices.Concat(spans, spansOf(e.Names), spansOf(e.L), spansOf(e.Alts), spansIn(e.L...))
		for _, a := range e.Alts {
			spans = slices.Concat(spans, spansOf(a.Names), spansIn(a.E))
		}
	}
	return spans
}

// wantApart holds that no two spans share memory.
func wantApart(t *testing.T, spans []span) {
	t.Helper()
	slices.SortFunc(spans, func(a, b span) int { return int(a.from) - int(b.from) })
	for i := 1; i < len(spans); i++ {
		if spans[i].from < spans[i-1].to {
			t.Fatalf("two of %d lists share memory", len(spans))
		}
	}
}

func TestWhatIsHandedOutIsNewMemory(t *testing.T) {
	const s = "(let ((a (x (fn (u x) (x 1)))) (b x)) (case x ((C c d) (x c (fn (e) x))) (_ (+ x x)) ((C x) (fn (f) (x f)))))"
	e, by := read(t, s), read(t, s)
	names, bound := free.Names(e), free.Bound(e)
	want, wantBound := slices.Clone(names), slices.Clone(bound)
	var spans []span
	answers := []api.Expr{e, by}
	for range 2 {
		answers = append(answers, free.Rename(e, "x", "y"), free.Rename(e, "y", "x"), free.Subst(e, "x", by), free.Subst(e, "y", by), free.Subst(e, "x", e), free.Subst(v("x"), "x", by))
		spans = slices.Concat(spans, spansOf(free.Names(e)), spansOf(free.Bound(e)))
	}
	spans = slices.Concat(spans, spansIn(answers...), spansOf(names), spansOf(bound))
	if len(spans) < 500 {
		t.Error(len(spans))
	}
	wantApart(t, spans)
	// Whatever is written into an answer, or behind it.
	for _, l := range [][]string{names, bound} {
		for i := range cap(l) {
			l[:cap(l)][i] = "changed"
		}
	}
	if got := free.Names(e); !slices.Equal(got, want) {
		t.Error(got)
	}
	if got := free.Bound(e); !slices.Equal(got, wantBound) {
		t.Error(got)
	}
}

// What was told of one expression is nothing to the next one.
func TestCallsHangOnTheirArgumentsAlone(t *testing.T) {
	for range 3 {
		wantNames(t, "(fn (x) (x y))", "y", "x")
		wantNames(t, "(fn (y) (x y))", "x", "y")
		wantNames(t, "(x y)", "x y", "")
		wantRename(t, "(x y)", "x", "z", "(z y)")
		wantRename(t, "(x y)", "y", "z", "(x z)")
		if got := free.Fresh("x", "x"); got != "x_1" {
			t.Error(got)
		}
		if got := free.Fresh("x"); got != "x" {
			t.Error(got)
		}
	}
}
