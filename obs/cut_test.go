package obs_test

import (
	"math"
	"slices"
	"strings"
	"testing"

	"gristmill/api"
	"gristmill/flo"
	"gristmill/obs"
)

// wantCut holds the Cut of the text's observation at each depth against its text.
func wantCut(t *testing.T, s string, want map[int]string) {
	t.Helper()
	for depth, w := range want {
		if got := obs.Cut(read(t, s), depth); obs.Text(got) != w || !obs.Same(got, read(t, w)) {
			t.Errorf("Cut of %q at %d: %q; want %q", s, depth, obs.Text(got), w)
		}
	}
}

func TestCut(t *testing.T) {
	wantCut(t, "(C (D 1 E) 1p-1 _)", map[int]string{
		math.MinInt: "_", -1: "_", 0: "_", 1: "(C _ 1p-1 _)", 2: "(C (D 1 _) 1p-1 _)", 3: "(C (D 1 E) 1p-1 _)", 4: "(C (D 1 E) 1p-1 _)", 99: "(C (D 1 E) 1p-1 _)", math.MaxInt: "(C (D 1 E) 1p-1 _)",
	})
	wantCut(t, "(C (D (E (F 1))) N <fn> (G 2 (H (I J) 3)) -7)", map[int]string{
		0: "_", 1: "(C _ _ <fn> _ -7)", 2: "(C (D _) N <fn> (G 2 _) -7)", 3: "(C (D (E _)) N <fn> (G 2 (H _ 3)) -7)", 4: "(C (D (E (F 1))) N <fn> (G 2 (H (I _) 3)) -7)", 5: "(C (D (E (F 1))) N <fn> (G 2 (H (I J) 3)) -7)",
	})
	wantCut(t, "N", map[int]string{math.MinInt: "_", -1: "_", 0: "_", 1: "N", 2: "N"})
	for _, s := range []string{"0", "-5", "1p-1", "nan", "-0p0", "<fn>", "_", "!7", "!-2", "!0"} {
		wantCut(t, s, map[int]string{math.MinInt: s, -1: s, 0: s, 1: s, math.MaxInt: s})
	}
}

// Those that are no trees are as they are, also where they may not be, and what they have, too.
func TestCutOfOthers(t *testing.T) {
	for kind := -1; kind < 9; kind++ {
		if kind == api.SeenTree {
			continue
		}
		o := api.Obs{Kind: kind, N: 5, Name: "x", L: []api.Obs{con("T", con("U", num(1))), {}, fault(2), {Kind: kind, L: []api.Obs{con("V")}}}}
		for _, depth := range []int{math.MinInt, -1, 0, 1, 2, math.MaxInt} {
			if got := obs.Cut(o, depth); !obs.Same(got, o) {
				t.Errorf("%v at %d: %v", o, depth, got)
			}
		}
		if got := obs.Cut(con("T", con("U"), o), 1); !obs.Same(got, con("T", cut(), o)) {
			t.Errorf("a tree with %v: %v", o, got)
		}
	}
	// A tree that may not be is a tree; what stands for it has nothing of it.
	for _, o := range []api.Obs{con(""), con("t", num(1)), {Kind: api.SeenTree, Name: "T", N: 7, L: []api.Obs{fault(1)}}, con("T", slices.Repeat([]api.Obs{num(1)}, 61)...), con("T", float(flo.NaN+1))} {
		for _, depth := range []int{math.MinInt, -1, 0} {
			if got := obs.Cut(o, depth); !obs.Same(got, cut()) {
				t.Errorf("%v at %d: %v", o, depth, got)
			}
		}
		if got := obs.Cut(o, 1); !obs.Same(got, o) {
			t.Errorf("%v: %v", o, got)
		}
	}
}

// modelCut is the text, read from its left to its right, with _ in place of each tree that is within so many others.
func modelCut(s string, depth int) string {
	var out strings.Builder
	open := 0
	for i := 0; i < len(s); {
		from := i
		isTree := s[i] == '(' || 'A' <= s[i] && s[i] <= 'Z'
		switch {
		case isTree && open >= depth:
			out.WriteByte('_')
			i = behindTree(s, i)
			continue
		case s[i] == '(': // with its name
			open++
			i = strings.IndexByte(s[i:], ' ') + i
		case s[i] == ')':
			open--
			i++
		case s[i] == ' ':
			i++
		default:
			i = behindTree(s, i)
		}
		out.WriteString(s[from:i])
	}
	return out.String()
}

// behindTree is the place behind the word or the list that begins at place i.
func behindTree(s string, i int) int {
	for open := 0; i < len(s); i++ {
		switch {
		case s[i] == '(':
			open++
		case open == 0 && (s[i] == ' ' || s[i] == ')'):
			return i
		case s[i] == ')':
			open--
		}
	}
	return i
}

func TestModelCut(t *testing.T) {
	for depth, want := range []string{"_", "(C _ 1 _ _)", "(C (D _ _) 1 _ F)", "(C (D E (G -1)) 1 _ F)", "(C (D E (G -1)) 1 _ F)"} {
		if got := modelCut("(C (D E (G -1)) 1 _ F)", depth); got != want {
			t.Error(depth, got)
		}
	}
}

// endless is observations that have themselves as a part, or parts at so many places that there is no end to it.
func endless() (l []api.Obs) {
	for _, kind := range []int{api.SeenInt, api.SeenFlo, api.SeenTree, api.SeenFn, api.SeenCut, api.SeenFault, 0} {
		for place := range 3 {
			o := api.Obs{Kind: kind, Name: "T", L: []api.Obs{num(1), con("U"), num(2)}}
			o.L[place] = o
			l = append(l, o)
		}
	}
	o := num(1)
	for range 100 {
		o = con("T", o, o)
	}
	deep := con("T")
	for range 1 << 20 {
		deep = con("T", deep)
	}
	long := con(strings.Repeat("N", 1<<20))
	for range 60 {
		long = con("T", long, long)
	}
	return append(l, o, deep, long)
}

func TestEndless(t *testing.T) {
	for i, o := range endless() {
		if s, _ := obs.Text(o), obs.Same(o, o); s != "" || obs.Valid(o) || obs.Valid(con("T", o)) {
			t.Error(i, s)
		}
		for _, other := range []api.Obs{{}, num(1), con("T"), con("T", con("T", num(1)), num(1)), nest(100, num(1))} {
			if obs.Same(o, other) || obs.Same(other, o) {
				t.Error(i, other)
			}
		}
		if got := obs.Cut(o, math.MaxInt); !obs.Same(got, api.Obs{}) {
			t.Error(i, got)
		}
		if o.Kind != api.SeenTree {
			continue
		}
		for depth := range 10 {
			got := obs.Cut(o, depth)
			if !obs.Valid(got) || !obs.Same(got, obs.Cut(obs.Cut(o, 12), depth)) || obs.Same(got, obs.Cut(o, depth+1)) {
				t.Error(i, depth)
			}
		}
	}
	o := con("T", num(1))
	o.L = append(o.L, con("T"))
	o.L[1] = o
	if got := obs.Text(obs.Cut(o, 3)); got != "(T 1 (T 1 (T 1 _)))" {
		t.Error(got)
	}
}

// As deep as the document's limits have it, far deeper than Valid takes it.
func TestVeryDeep(t *testing.T) {
	const levels = 1 << 16
	deep, other := nest(levels, num(1)), nest(levels, num(2))
	if !obs.Same(deep, nest(levels, num(1))) || obs.Same(deep, other) || obs.Same(deep, nest(levels-1, num(1))) {
		t.Error("Same")
	}
	if obs.Valid(deep) || obs.Text(deep) != "" {
		t.Error("Valid")
	}
	for _, depth := range []int{levels, levels + 1, math.MaxInt} {
		if got := obs.Cut(deep, depth); !obs.Same(got, deep) {
			t.Error(depth)
		}
	}
	if got := obs.Cut(nest(levels, con("T")), levels); !obs.Same(got, nest(levels, cut())) {
		t.Error("Cut")
	}
	if got := obs.Cut(deep, 5); obs.Text(got) != "(C (C (C (C (C _)))))" {
		t.Error(obs.Text(got))
	}
	wide := con("T", slices.Repeat([]api.Obs{con("U", num(1))}, 1<<20)...)
	if got := obs.Cut(wide, 2); !obs.Same(got, wide) || obs.Valid(wide) {
		t.Error(len(got.L))
	}
	if got := obs.Cut(wide, 1); !obs.Same(got, con("T", slices.Repeat([]api.Obs{cut()}, 1<<20)...)) {
		t.Error(len(got.L))
	}
}
