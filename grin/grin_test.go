package grin_test

import (
	"fmt"
	"slices"
	"testing"

	"gristmill/api"
	"gristmill/grin"
)

func TestFind(t *testing.T) {
	p := of(fn("f", nil), fn("main", nil), fn("g", nil), fn("f", []string{"x"}), fn("", nil), fn("\xff", nil))
	for _, x := range []struct {
		name  string
		place int
	}{{"f", 0}, {"main", 1}, {"g", 2}, {"", 4}, {"\xff", 5}} {
		if place, ok := grin.Find(p, x.name); place != x.place || !ok {
			t.Errorf("Find %q: %d, %v", x.name, place, ok)
		}
	}
	for _, name := range []string{"h", "F", "f ", "mai", "main\x00", "x", "\xfe"} {
		if place, ok := grin.Find(p, name); place != 0 || ok {
			t.Errorf("Find %q: %d, %v", name, place, ok)
		}
	}
	for _, p := range []grin.Prog{{}, {Funcs: []api.Func{}}, of(fn("f", []string{"main"}, whole("main")))} {
		if place, ok := grin.Find(p, "main"); place != 0 || ok {
			t.Errorf("Find in %v: %d, %v", p, place, ok)
		}
		if place, ok := grin.Find(p, ""); place != 0 || ok {
			t.Errorf("Find in %v: %d, %v", p, place, ok)
		}
	}
}

// ops is a step of each Op, and of some that are none.
func ops() (l []api.Step) {
	for op := -1; op <= 13; op++ {
		l = append(l, api.Step{Op: op})
	}
	return l
}

func TestSites(t *testing.T) {
	x := v("x")[0]
	for _, c := range []struct {
		want int
		f    api.Func
	}{
		{0, api.Func{}}, {0, fn("f", []string{"x"}, ret("x"))}, {1, fn("f", nil, whole("x"), ret("x"))}, {3, fn("f", nil, whole("x"), whole("y"), whole("z"))}, {1, fn("f", nil, ops()...)},
		{2, fn("f", nil, whole("x"), choose(x, other(whole("y"))))}, {6, fn("f", nil, whole("x"), choose(x, other(whole("y"), choose(x, other(fail), other(whole("a"), whole("b")))), other(fail), other(whole("y"), whole("x"))), fail)},
		// A DoNode of whatever Tag, twice the same, or in a step that may have no Alts.
		{4, fn("f", nil, node("x", con("C", 0)), node("x", con("C", 0)), node("", api.Tag{}), api.Step{Op: api.DoNode})}, {3, fn("f", nil, api.Step{Op: api.DoNode, Alts: []api.Branch{other(whole("x"))}}, api.Step{Op: api.DoRet, Alts: []api.Branch{other(whole("x"))}})},
	} {
		if got := grin.Sites(c.f); got != c.want {
			t.Errorf("%v: %d; want %d", c.f, got, c.want)
		}
	}
}

func TestVars(t *testing.T) {
	x := v("x")[0]
	for _, c := range []struct {
		want []string
		f    api.Func
	}{
		{nil, api.Func{}}, {nil, fn("f", nil, fail)}, {[]string{"b", "a"}, fn("f", []string{"b", "a"}, ret("c"))}, {[]string{"x"}, fn("f", nil, whole("x"), ret("x"))},
		{[]string{"p", "z", "y", "x"}, fn("f", []string{"p"}, whole("z"), whole("y"), do(api.DoUpdate, v("a", "b")...), whole("x"), ret("q"))},
		{[]string{"x", "b", "d", "c", "a"}, fn("f", nil, whole("x"), choose(x, other(whole("b"), choose(x, other(whole("d")), other(fail), other(whole("c"), fail))), other(whole("a"), ret("e"))))},
		// Each once, in the place of the first.
		{[]string{"x", "y", "z"}, fn("f", []string{"x", "y", "x"}, whole("y"), whole("z"), whole("x"), choose(x, other(whole("z")), other(whole("x"))))},
		// What may not be bound, or may have no branches.
		{[]string{"a", "b", "c"}, fn("f", nil, to("a", fail), to("b", choose(x, other(to("c", ret("x"))))))}, {[]string{"a", "b", "c"}, fn("f", nil, api.Step{To: "a", Alts: []api.Branch{other(whole("b"))}}, whole("c"))},
		// An empty name is none.
		{[]string{"a"}, fn("f", []string{"", "a", ""}, whole(""))}, {[]string{" ", "\xff", "\x00"}, fn("f", []string{" "}, whole("\xff"), whole("\x00"))},
	} {
		if got := grin.Vars(c.f); !slices.Equal(got, c.want) {
			t.Errorf("%v: %q; want %q", c.f, got, c.want)
		}
	}
}

func TestPlain(t *testing.T) {
	x := v("x")[0]
	for _, s := range ops() {
		plain := s.Op != api.DoEval && s.Op != api.DoApply
		for _, p := range []grin.Prog{
			main(s), main(whole("x"), s, fail), of(fn("f", nil, s), fn("main", nil, fail)), of(fn("main", nil, fail), fn("f", nil, whole("x"), s), fn("g", nil, fail)),
			main(choose(x, other(s))), main(choose(x, other(fail), other(whole("y"), s, fail), other(fail))), main(choose(x, other(choose(x, other(fail), other(s)))), fail), main(api.Step{Op: api.DoRet, Alts: []api.Branch{other(s)}}, fail),
		} {
			if got := grin.Plain(p); got != plain {
				t.Errorf("%v: %v", p, got)
			}
		}
	}
	for _, p := range []grin.Prog{{}, of(), of(api.Func{}), main(), main(choose(x)), main(choose(x, other()))} {
		if !grin.Plain(p) {
			t.Errorf("%v is not Plain", p)
		}
	}
}

// rich has of all that a program has two, no two of them the same.
func rich() grin.Prog {
	steps := func(name string) []api.Step {
		return []api.Step{
			{Op: 1, To: name + "1", Name: name + "2", Tag: api.Tag{Kind: 2, Name: name + "3", N: 3}, Vals: []api.Val{{Kind: 4, Name: name + "4", N: 5}, {Kind: 6, Name: name + "5", N: 7}}, N: 8},
			{Op: 9, To: name + "6", Name: name + "7", Tag: api.Tag{Kind: 10, Name: name + "8", N: 11}, Vals: []api.Val{{Kind: 12, Name: name + "9", N: 13}}, N: 14},
		}
	}
	branches := func(name string) []api.Branch {
		return []api.Branch{{Take: 15, Tag: api.Tag{Kind: 16, Name: name + "10", N: 17}, N: 18, Steps: steps(name + "a")}, {Take: 19, Tag: api.Tag{Kind: 20, Name: name + "11", N: 21}, N: 22, Steps: steps(name + "b")}}
	}
	f := func(name string) api.Func {
		l := steps(name)
		l[1].Alts = branches(name + "c")
		l[1].Alts[0].Steps[1].Alts = branches(name + "d")
		return fn(name, []string{name + "p", name + "q"}, l...)
	}
	return of(f("f"), f("g"))
}

func TestSame(t *testing.T) {
	if !grin.Same(rich(), rich()) || !grin.Same(grin.Prog{}, grin.Prog{}) || grin.Same(grin.Prog{}, rich()) || grin.Same(rich(), grin.Prog{}) {
		t.Error("Same")
	}
	// nil and the empty list are the same.
	empty := []api.Step{{Op: 1, Vals: []api.Val{}, Alts: []api.Branch{}}, {Alts: []api.Branch{{Steps: []api.Step{}}}}}
	if p, q := of(fn("f", nil), fn("g", nil, api.Step{Op: 1}, api.Step{Alts: []api.Branch{{}}})), of(fn("f", []string{}, []api.Step{}...), fn("g", []string{}, empty...)); !grin.Same(p, q) || !grin.Same(q, p) || !grin.Same(grin.Prog{}, grin.Prog{Funcs: []api.Func{}}) {
		t.Error("nil is not the same as the empty list")
	}
}

// What is altered anywhere is not the same any more.
func TestSameOfEachAlteration(t *testing.T) {
	p, q := rich(), rich()
	n := 0
	eachAlteration(&q, func(what string) {
		n++
		if grin.Same(p, q) || grin.Same(q, p) {
			t.Errorf("%s: it is the Same", what)
		}
		if c := grin.Clone(q); !grin.Same(q, c) || grin.Same(p, c) || fmt.Sprint(q) != fmt.Sprint(c) {
			t.Errorf("%s: its Clone is %v", what, c)
		}
	})
	if !grin.Same(p, q) || n < 500 {
		t.Error(n)
	}
}

func TestClone(t *testing.T) {
	for _, p := range []grin.Prog{{}, {Funcs: []api.Func{}}, of(api.Func{}), rich(), main(whole("x"), ret("x")), of(api.Func{Params: []string{}, Steps: []api.Step{{Vals: []api.Val{}, Alts: []api.Branch{{Steps: []api.Step{}}}}}})} {
		q := grin.Clone(p)
		if !grin.Same(p, q) || !grin.Same(q, p) || len(q.Funcs) != len(p.Funcs) || fmt.Sprint(p) != fmt.Sprint(q) {
			t.Errorf("%v: its Clone is %v", p, q)
		}
	}
}
