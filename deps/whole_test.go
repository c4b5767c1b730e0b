package deps_test

import (
	"fmt"
	"reflect"
	"slices"
	"strings"
	"testing"

	"gristmill/api"
	"gristmill/deps"
	"gristmill/scope"
)

// rising is the n whole numbers from the first one.
func rising(from, n int) (l []int) {
	for i := range n {
		l = append(l, from+i)
	}
	return l
}

// alone is a list for each of l.
func alone(l []int) (out [][]int) {
	for _, i := range l {
		out = append(out, []int{i})
	}
	return out
}

// wide is a program of as many definitions as there may be, of which each uses those that step tells.
func wide(step func(int) []int) string {
	uses := make([][]int, api.MaxDefs)
	for i := range uses {
		uses[i] = step(i)
	}
	return graph(uses, 0)
}

// wantWide holds the calls for the first and the last definition, and the groups, of as many as there may be.
func wantWide(t *testing.T, s string, first, last []int, groups [][]int) {
	t.Helper()
	p := read(t, s)
	for def, needed := range map[int][]int{0: first, api.MaxDefs - 1: last} {
		if got := deps.Needed(p, def); !slices.Equal(got, needed) {
			t.Errorf("Needed of %.300q, %d: %v; want %v", s, def, got, needed)
		}
	}
	if got := deps.Groups(p); !reflect.DeepEqual(got, groups) {
		t.Errorf("Groups of %.300q: %v; want %v", s, got, groups)
	}
}

func TestAsManyDefinitionsAsThereMayBe(t *testing.T) {
	n, last := api.MaxDefs, api.MaxDefs-1
	all := rising(0, n)
	down := slices.Clone(all)
	slices.Reverse(down)
	wantWide(t, wide(func(i int) []int { return nil }), []int{0}, []int{last}, alone(all))
	wantWide(t, wide(func(i int) []int { return rising(i+1, min(1, last-i)) }), all, []int{last}, alone(down))
	wantWide(t, wide(func(i int) []int { return rising(i-1, min(1, i)) }), []int{0}, all, alone(all))
	wantWide(t, wide(func(i int) []int { return []int{(i + 1) % n} }), all, all, [][]int{all})
	// Each uses the fifty behind it; each uses itself and fifty ahead of it; each uses fifty of all.
	wantWide(t, wide(func(i int) []int { return rising(i+1, min(50, last-i)) }), all, []int{last}, alone(down))
	wantWide(t, wide(func(i int) []int { return rising(max(i-50, 0), min(50, i)+1) }), []int{0}, all, alone(all))
	wantWide(t, wide(func(i int) (l []int) {
		for k := range 50 {
			l = append(l, (i*7+k*3+1)%n)
		}
		return l
	}), all, all, [][]int{all})
	// Rings of two, each of one at the start and one at the end: the one that begins first is needed by no other.
	var rings [][]int
	for i := range n / 2 {
		rings = append(rings, []int{n/2 - 1 - i, n/2 + i})
	}
	wantWide(t, wide(func(i int) []int {
		if i < n/2-1 {
			return []int{last - i, i + 1}
		}
		return []int{last - i}
	}), all, all, rings)
}

func TestDeepBodies(t *testing.T) {
	nest := func(n int, open, inner, close string) string {
		return strings.Repeat(open, n) + inner + strings.Repeat(close, n)
	}
	for _, x := range []struct{ uses, body string }{
		{"[1]", nest(198, "(A ", "g", ")")}, {"[0 1 2]", nest(98, "(f (+ 1 ", "(g h)", "))")},
		{"[]", nest(198, "(fn (g) ", "g", ")")}, {"[1]", "(" + nest(190, "(fn (g) ", "g", ")") + " g)"}, {"[2]", nest(190, "(fn (g) ", "h", ")")},
		{"[]", "(fn (g) " + nest(90, "((fn (g) ", "g", ") g)") + ")"}, {"[1]", nest(90, "((fn (g) ", "g", ") g)")},
		{"[]", nest(60, "(let ((g g)) ", "g", ")")}, {"[2]", nest(60, "(let ((g h)) ", "g", ")")},
		{"[1]", nest(60, "(case g ((B g) ", "g", "))")}, {"[1]", nest(60, "(case 1 ((B g) ", "1", ") (_ g))")}, {"[]", "(fn (g) " + nest(60, "(case 1 ((B g) ", "1", ") (_ g))") + ")"},
	} {
		if got := fmt.Sprint(deps.Uses(read(t, ofBodies("", x.body)), 0)); got != x.uses {
			t.Errorf("%q: %s; want %s", x.body, got, x.uses)
		}
	}
}

// behind is a right program with lists that have more behind their lengths, and these lists up to there.
func behind() (api.Program, []any) {
	v := func(name string) api.Expr { return api.Expr{Op: api.Var, Name: name} }
	params, bound, taken := []string{"x", "g"}, []string{"y", "g"}, []string{"z", "g"}
	alts := []api.Alt{{Take: api.TakeCon, Name: "C", Names: taken[:1], E: v("g")}, {Take: api.TakeAny, E: v("h")}}
	looked := []api.Expr{v("g"), v("h")}
	parts := []api.Expr{{Op: api.Case, L: looked[:1], Alts: alts[:1]}, v("h")}
	datas := []api.Data{{Name: "T", Cons: []api.Cons{{Name: "C", Args: []api.Type{{Name: "T"}}}}}, {Name: "T"}}
	defs := []api.Def{{Name: "f", Params: params[:1], Body: api.Expr{Op: api.Fn, Names: bound[:1], L: parts[:1]}}, {Name: "g", Body: v("main")}, {Name: "main", Body: v("main")}, {Name: "h", Body: v("f")}}
	return api.Program{Datas: datas[:1], Defs: defs[:3]}, []any{params, bound, taken, alts, looked, parts, datas, defs}
}

func TestWhatIsHandedInIsNeitherChangedNorReadBehindItsLength(t *testing.T) {
	p, lists := behind()
	_, kept := behind()
	if err := scope.Check(p); err != nil {
		t.Fatal(err)
	}
	for range 3 {
		if got := fmt.Sprint(ofAll(p, deps.Uses), ofAll(p, deps.Needed), deps.Groups(p)); got != "[[1] [2] [2]] [[0 1 2] [1 2] [2]] [[2] [1] [0]]" {
			t.Error(got)
		}
	}
	if !reflect.DeepEqual(lists, kept) {
		t.Errorf("%v; they were %v", lists, kept)
	}
}

// spoil writes into each list, behind its length too; the others have to stand.
func spoil(t *testing.T, lists [][]int) {
	t.Helper()
	for i, l := range lists {
		before := fmt.Sprint(lists[:i], lists[i+1:])
		for k := range cap(l) {
			l[:cap(l)][k] = -7
		}
		if after := fmt.Sprint(lists[:i], lists[i+1:]); after != before {
			t.Fatalf("%s; they were %s", after, before)
		}
	}
}

func TestWhatIsHandedOutIsNewMemory(t *testing.T) {
	p := read(t, "(def a (b c)) (def b (a d)) (def c (d e)) (def d (e c)) (def e (d main)) (def f (e f)) (def main 1)")
	answers := func() [][]int {
		return slices.Concat(deps.Groups(p), deps.Groups(p), ofAll(p, deps.Uses), ofAll(p, deps.Uses), ofAll(p, deps.Needed), ofAll(p, deps.Needed))
	}
	first := fmt.Sprint(answers())
	for range 3 {
		l := answers()
		if got := fmt.Sprint(l); got != first {
			t.Fatalf("%s; the first time %s", got, first)
		}
		spoil(t, l)
	}
	// The list of the groups too.
	groups := deps.Groups(p)
	kept := fmt.Sprint(deps.Groups(p))
	clear(groups[:cap(groups)])
	if got := fmt.Sprint(deps.Groups(p)); got != kept {
		t.Errorf("%s; want %s", got, kept)
	}
}

// What was told of one program is nothing to the next one.
func TestCallsHangOnTheirProgramAlone(t *testing.T) {
	for range 3 {
		want(t, "(def f x (g x)) (def g x (f x)) (def main (f 1))", "[[1] [0] [0]]", "[[0 1] [0 1] [0 1 2]]", "[[0 1] [2]]")
		want(t, "(def f x (g x)) (def g f (f g)) (def main (f 1))", "[[1] [1] [0]]", "[[0 1] [1] [0 1 2]]", "[[1] [0] [2]]")
		want(t, "(def main 1)", "[[]]", "[[0]]", "[[0]]")
	}
}
