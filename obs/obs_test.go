package obs_test

import (
	"math"
	"slices"
	"strings"
	"testing"

	"gristmill/api"
	"gristmill/flo"
	"gristmill/obs"
)

func num(n int64) api.Obs { return api.Obs{Kind: api.SeenInt, N: n} }

func float(bits uint64) api.Obs { return api.Obs{Kind: api.SeenFlo, N: int64(bits)} }

func fn() api.Obs { return api.Obs{Kind: api.SeenFn} }

func cut() api.Obs { return api.Obs{Kind: api.SeenCut} }

func fault(n int64) api.Obs { return api.Obs{Kind: api.SeenFault, N: n} }

func con(name string, l ...api.Obs) api.Obs {
	return api.Obs{Kind: api.SeenTree, Name: name, L: l}
}

// nest is what is within so many trees.
func nest(n int, o api.Obs) api.Obs {
	for range n {
		o = con("C", o)
	}
	return o
}

// many is a tree of that many observations in all, of trees that have o as often as they may.
func many(n int, o api.Obs) api.Obs {
	return split("All", n, 1+api.MaxList*api.MaxList, func(n int) api.Obs {
		return split("Each", n, 1+api.MaxList, func(n int) api.Obs {
			return con("Some", slices.Repeat([]api.Obs{o}, n-1)...)
		})
	})
}

// split is a tree of that many observations in all, each part of at most so many.
func split(name string, n, most int, part func(n int) api.Obs) api.Obs {
	o := con(name)
	for n--; n > 0; n -= min(n, most) {
		o.L = append(o.L, part(min(n, most)))
	}
	return o
}

// count is how many observations there are in all.
func count(o api.Obs) int {
	n := 1
	for _, part := range o.L {
		n += count(part)
	}
	return n
}

// wantValid holds that each may be, or that none may, alone and, but for a fault, in a tree.
func wantValid(t *testing.T, is bool, l ...api.Obs) {
	t.Helper()
	for i, o := range l {
		if got := obs.Valid(o); got != is {
			t.Errorf("%d: Valid of %.300v: %v", i, o, got)
		}
		if got := obs.Valid(con("T", num(1), o, num(2))); got != is && o.Kind != api.SeenFault {
			t.Errorf("%d: Valid of a tree with %.300v: %v", i, o, got)
		}
		if s := obs.Text(o); (s == "") != !is {
			t.Errorf("%d: Text of %.300v: %.300q", i, o, s)
		}
	}
}

func TestValid(t *testing.T) {
	wantValid(t, true, num(0), num(5), num(-5), num(math.MaxInt64), num(math.MinInt64), fn(), cut(), con("T"), con("T", num(1)), con("T", fn(), cut(), con("U", con("V")), float(1)))
	wantValid(t, true, fault(0), fault(7), fault(api.NoMatch), fault(api.NoDiv), fault(api.NoInt), fault(-9), fault(math.MaxInt64), fault(math.MinInt64))
	for _, s := range []string{"0p0", "-0p0", "1p-1", "-3p-1", "inf", "-inf", "nan", "1p-1074", "9007199254740991p971"} {
		bits, err := flo.Parse(s)
		if err != nil {
			t.Fatal(s)
		}
		wantValid(t, true, float(bits))
	}
	wantValid(t, false, float(flo.NaN+1), float(flo.NaN-1), float(flo.NaN|1<<63), float(math.MaxUint64), float(0x7ff0000000000001), float(0xfff0000000000001))
	for kind := -3; kind < 12; kind++ {
		if kind < api.SeenInt || kind > api.SeenFault {
			wantValid(t, false, api.Obs{Kind: kind}, api.Obs{Kind: kind, N: 1}, api.Obs{Kind: kind, Name: "T"}, api.Obs{Kind: kind, Name: "T", L: []api.Obs{num(1)}})
		}
	}
}

// A field that it does not have is not its zero value.
func TestValidOfOtherFields(t *testing.T) {
	for _, o := range []api.Obs{num(5), num(0), float(0), float(flo.NaN), fn(), cut(), fault(3), fault(0)} {
		for _, l := range [][]api.Obs{nil, {}} {
			o.L = l
			wantValid(t, true, o)
		}
		for _, name := range []string{"T", "x", " "} {
			o := o
			o.Name = name
			wantValid(t, false, o)
		}
		for _, part := range []api.Obs{{}, num(0), con("T"), o} {
			o := o
			o.L = []api.Obs{part}
			wantValid(t, false, o)
		}
	}
	for _, n := range []int64{1, -1, math.MinInt64} {
		for _, kind := range []int{api.SeenFn, api.SeenCut} {
			wantValid(t, false, api.Obs{Kind: kind, N: n})
		}
		wantValid(t, false, api.Obs{Kind: api.SeenTree, Name: "T", N: n}, api.Obs{Kind: api.SeenTree, Name: "T", N: n, L: []api.Obs{num(1)}})
	}
}

func TestValidOfTrees(t *testing.T) {
	long := strings.Repeat("N", 40)
	for _, l := range [][]api.Obs{nil, {num(1)}} {
		for _, name := range []string{"T", "Z9", "A_b", "Tt", "Int", "Float", "T_", "FN", long} {
			wantValid(t, true, con(name, l...))
		}
		for _, name := range []string{"", "t", "fn", "_", "1", "T ", " T", "T(", "T)", "(T", "T.", "T-", "T\n", "T\x00", "\u00c9", "T\u00e9", "<fn>", long + "N"} {
			wantValid(t, false, con(name, l...))
		}
	}
	// A fault is in no tree, at no place.
	for _, f := range []api.Obs{fault(0), fault(7), fault(api.NoDiv)} {
		for _, o := range []api.Obs{con("T", f), con("T", f, num(1)), con("T", num(1), f), con("T", con("U"), con("U", con("V", num(1), f)), num(1))} {
			wantValid(t, false, o)
		}
	}
	// One that may not be is anywhere.
	for _, bad := range []api.Obs{{}, float(flo.NaN + 1), con("t"), {Kind: api.SeenFn, N: 1}} {
		for _, o := range []api.Obs{con("T", bad), con("T", bad, num(1)), con("T", num(1), bad), con("T", con("U"), con("U", con("V", num(1), bad)), num(1))} {
			wantValid(t, false, o)
		}
	}
}

func TestValidAtTheLimits(t *testing.T) {
	// In wantValid there is one tree more around each.
	for _, o := range []api.Obs{num(1), fn(), cut(), float(1)} {
		wantValid(t, true, nest(api.MaxDepth-1, o))
		wantValid(t, false, nest(api.MaxDepth+1, o))
		if !obs.Valid(nest(api.MaxDepth, o)) || obs.Valid(con("T", num(1), nest(api.MaxDepth, o))) {
			t.Error(o)
		}
	}
	wantValid(t, true, nest(api.MaxDepth-2, con("T")))
	wantValid(t, false, nest(api.MaxDepth, con("T")), con("T", nest(3, num(1)), nest(api.MaxDepth, num(1)), num(1)))
	if !obs.Valid(nest(api.MaxDepth-1, con("T"))) {
		t.Error("a tree at the depth")
	}
	for _, o := range []api.Obs{num(1), con("T"), cut()} {
		full := con("T", slices.Repeat([]api.Obs{o}, api.MaxList)...)
		wantValid(t, true, full)
		full.L = append(full.L, o)
		wantValid(t, false, full)
		large, larger := many(api.MaxSize, o), many(api.MaxSize+1, o)
		if count(large) != 20000 || count(larger) != 20001 {
			t.Fatal(count(large), count(larger))
		}
		if !obs.Valid(large) || obs.Valid(larger) || obs.Text(large) == "" || obs.Text(larger) != "" {
			t.Error(o, "MaxSize")
		}
	}
}

func TestSame(t *testing.T) {
	l := []api.Obs{
		{}, num(0), num(1), num(-1), num(math.MinInt64), float(0), float(1), float(1 << 63), float(flo.NaN), float(flo.NaN + 1), fn(), cut(), fault(0), fault(1), fault(-1),
		con(""), con("T"), con("U"), con("t"), con("T", num(0)), con("T", num(1)), con("T", num(1), num(1)), con("T", num(0), num(1)), con("T", num(1), num(0)), con("U", num(1)), con("T", con("T")), con("T", con("U")),
		con("T", float(0)), con("T", float(1<<63)), con("T", con("T", num(1))), con("T", con("T"), num(1)), con("T", fault(1)), con("T", api.Obs{}),
		{Kind: api.SeenInt, Name: "T"}, {Kind: api.SeenFn, N: 1}, {Kind: api.SeenTree, Name: "T", N: 1}, {Kind: api.SeenInt, L: []api.Obs{num(1)}}, {Kind: 7}, {Kind: -1}, {Name: "T"}, {N: 1}, {L: []api.Obs{{}}},
	}
	for i, a := range l {
		for j, b := range l {
			if got := obs.Same(a, b); got != (i == j) {
				t.Errorf("Same of %v, %v: %v", a, b, got)
			}
			if got := obs.Same(nest(5, a), nest(5, b)); got != (i == j) {
				t.Errorf("Same of %v, %v, each in trees: %v", a, b, got)
			}
		}
	}
	if empty := con("T", []api.Obs{}...); empty.L == nil || !obs.Same(empty, con("T")) || !obs.Same(con("T"), empty) || !obs.Same(con("U", empty), con("U", con("T"))) {
		t.Error("nil and the empty list")
	}
}
