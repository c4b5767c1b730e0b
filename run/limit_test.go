package run_test

import (
	"fmt"
	"math"
	"reflect"
	"slices"
	"strings"
	"testing"

	"gristmill/api"
	"gristmill/grin"
	"gristmill/obs"
	"gristmill/run"
)

func TestWrongPrograms(t *testing.T) {
	endless := choose(i(1), other(api.Step{}))
	endless.Alts[0].Steps[0] = endless
	for k, p := range []grin.Prog{
		{}, of(fn("f", nil, fail(1))), of(fn("main", []string{"a"}, ret("a"))), with(ret("x")), with(), with(fail(-1)), with(fail(1), fail(1)), with(whole("x", 1)), with(call("x", "none"), ret("x")), with(node("x", con("x", 0)), ret("x")), with(endless), of(make([]api.Func, api.MaxCode+1)...), of(append(others(), fn("main", nil, fail(1)), fn("main", nil, fail(1)))...),
	} {
		if grin.Valid(p) == nil {
			t.Fatal(p)
		}
		for _, depth := range []int{-1, 0, 5, 41} {
			for _, fuel := range []int64{-1, 0, 1, 1000, math.MaxInt64} {
				if got := run.Run(p, depth, fuel); !reflect.DeepEqual(got, run.Out{How: api.Bad}) {
					t.Errorf("%d: %v", k, got)
				}
			}
		}
	}
}

func TestDepth(t *testing.T) {
	p := with(whole("x", 1), node("y", con("C", 2), "x", "x"), node("z", con("C", 2), "x", "y"), update("y", "z"), ret("y"))
	for depth, want := range map[int]int{math.MinInt: 0, -1: 0, 0: 0, 1: 1, 2: 2, 39: 39, 40: 40, 41: 40, math.MaxInt: 40} {
		got := does(t, p, depth, 100)
		if s := strings.Repeat("(C 1 ", want) + "_" + strings.Repeat(")", want); obs.Text(got.Obs) != s || got.Steps != 5 || got.How != api.Ended {
			t.Error(depth, got)
		}
	}
	// What is not looked at is not evaluated.
	p = with(node("x", fun("bad", 0)), node("y", con("S", 1), "x"), node("z", con("S", 1), "y"), ret("z"))
	for depth, want := range []string{"_", "(S _)", "!9", "!9"} {
		if got := does(t, p, depth, 100); obs.Text(got.Obs) != want || got.How != api.Ended {
			t.Error(depth, got)
		}
	}
}

func TestFuel(t *testing.T) {
	p := with(call("x", "seven"), ret("x"))
	for fuel, want := range map[int64]run.Out{math.MinInt64: {How: api.OutOfFuel}, -1: {How: api.OutOfFuel}, 0: {How: api.OutOfFuel}, 3: {How: api.OutOfFuel, Steps: 3}, 4: {How: api.Ended, Obs: api.Obs{Kind: api.SeenInt, N: 7}, Steps: 4}, math.MaxInt64: {How: api.Ended, Obs: api.Obs{Kind: api.SeenInt, N: 7}, Steps: 4}} {
		if got := does(t, p, 5, fuel); !reflect.DeepEqual(got, want) {
			t.Error(fuel, got)
		}
	}
	loop := with(node("x", fun("loop", 0)), update("x", "x"), choose(v("x")[0], other(node("y", app(1), "x", "x"), update("x", "y"), ret("y"))))
	for fuel, want := range map[int64]int64{-1: 0, 0: 0, 100: 100, api.MaxFuel - 1: api.MaxFuel - 1, api.MaxFuel: api.MaxFuel, api.MaxFuel + 1: api.MaxFuel, math.MaxInt64: api.MaxFuel} {
		if got := does(t, loop, 5, fuel); !reflect.DeepEqual(got, run.Out{How: api.OutOfFuel, Steps: want}) {
			t.Error(fuel, got)
		}
	}
}

// counted is a program that counts down from n, and that m times.
func counted(n, m int64) grin.Prog {
	down := fn("down", []string{"n"}, choose(v("n")[0], number(0, whole("x", 0), ret("x")), other(prim("m", "-", v("n")[0], i(1)), call("r", "down", "m"), ret("r"))))
	often := fn("often", []string{"n", "m"}, choose(v("m")[0], number(0, whole("x", 3), ret("x")), other(call("r", "down", "n"), prim("k", "-", v("m")[0], i(1)), call("s", "often", "n", "k"), ret("s"))))
	return of(down, often, fn("main", nil, prim("n", "+", i(n), i(0)), prim("m", "+", i(m), i(0)), call("r", "often", "n", "m"), ret("r")))
}

func TestMaxFuel(t *testing.T) {
	const n, m = 1000, 4180
	steps := int64(m*(4*n+3+5) + 3 + 4)
	left := api.MaxFuel - steps
	p := counted(n, m)
	if left < 0 {
		t.Fatal(left)
	}
	got := run.Run(p, 5, math.MaxInt64)
	if got.How != api.Ended || obs.Text(got.Obs) != "3" || got.Steps != steps {
		t.Fatal(got, steps)
	}
	// As many steps more as are left, and one more.
	f := &p.Funcs[2]
	for k := range left {
		f.Steps = slices.Insert(f.Steps, 0, whole(fmt.Sprint("x", k), 1))
	}
	if got := run.Run(p, 5, math.MaxInt64); got.How != api.Ended || got.Steps != api.MaxFuel {
		t.Error(got)
	}
	f.Steps = slices.Insert(f.Steps, 0, whole("x", 1))
	if got := run.Run(p, 5, math.MaxInt64); got.How != api.OutOfFuel || got.Steps != api.MaxFuel {
		t.Error(got)
	}
}

// What is open at once: calls, evaluations and applications.
func TestMaxStack(t *testing.T) {
	down := func(l ...api.Step) []api.Func {
		first := append([]api.Step{prim("m", "-", v("n")[0], i(1))}, l...)
		return []api.Func{fn("f", []string{"n"}, choose(v("n")[0], number(0, whole("e", 7), ret("e")), other(first...)))}
	}
	// Of a node: f is called with one that waits for it.
	boxed := func(l ...api.Step) []api.Func {
		open := []api.Step{do("n", api.DoOpen, "p"), prim("m", "-", v("n")[0], i(1)), box("q", wholeTag, v("m")[0])}
		return []api.Func{fn("f", []string{"p"}, do("o", api.DoOpen, "p"), choose(v("o")[0], number(0, whole("e", 7), ret("e")), other(append(open, l...)...))), fn("g", []string{"a", "p"}, call("r", "f", "p"), ret("r"))}
	}
	boxedMain := func(n int64) api.Func {
		return fn("main", nil, whole("p", n), call("r", "f", "p"), ret("r"))
	}
	bareMain := func(n int64) api.Func {
		return fn("main", nil, prim("p", "+", i(n), i(0)), call("r", "f", "p"), ret("r"))
	}
	for k, x := range []struct {
		funcs []api.Func
		main  func(int64) api.Func
		each  int // how many are open for each
	}{
		{down(call("r", "f", "m"), ret("r")), bareMain, 1},
		{boxed(call("r", "f", "q"), ret("r")), boxedMain, 1},
		// An evaluation, and the call that it makes; what that returns is evaluated within the first.
		{boxed(node("w", fun("f", 1), "q"), eval("r", "w"), ret("r")), boxedMain, 2},
		{boxed(node("w", fun("f", 1), "q"), ret("w")), boxedMain, 1},
		// An application, and the call.
		{boxed(node("w", pap("f", 1)), do("r", api.DoApply, "w", "q"), ret("r")), boxedMain, 2},
		{boxed(node("w", pap("g", 2)), do("r", api.DoApply, "w", "w", "q"), ret("r")), boxedMain, 3},
		// An evaluation, an application, the call.
		{boxed(node("w", pap("f", 1)), node("u", app(1), "w", "q"), eval("r", "u"), ret("r")), boxedMain, 3},
	} {
		most := func(n int64) int {
			m := newModel(of(append(x.funcs, x.main(n))...), 5, api.MaxFuel)
			m.run()
			return m.most
		}
		beside := most(1) - x.each
		if got := most(10) - x.each*10; got != beside {
			t.Fatal(k, got, beside)
		}
		n := (api.MaxStack - beside) / x.each
		for _, more := range []int{0, 1} {
			p := of(append(x.funcs, x.main(int64(n+more)))...)
			got := does(t, p, 5, api.MaxFuel)
			want := run.Out{How: api.OutOfFuel, Steps: api.MaxFuel}
			if more <= 0 {
				want = run.Out{How: api.Ended, Obs: api.Obs{Kind: api.SeenInt, N: 7}, Steps: got.Steps}
			}
			if !reflect.DeepEqual(got, want) {
				t.Errorf("%d: with %d more: %v", k, more, got)
			}
		}
	}
}

// deepest is a program in which so many are open at once when f does the steps: f is called by main, by calls within one another.
func deepest(open int, l ...api.Step) grin.Prog {
	f := fn("f", []string{"n"}, choose(v("n")[0], number(int64(open-2), l...), other(prim("m", "+", v("n")[0], i(1)), call("r", "f", "m"), ret("r"))))
	return of(append(others(), f, fn("main", nil, prim("z", "+", i(0), i(0)), call("r", "f", "z"), ret("r")))...)
}

// Ones that are begun and ended at once count, too.
func TestMaxStackOfEach(t *testing.T) {
	one := whole("a", 1)
	for k, x := range []struct {
		l    []api.Step
		more int
	}{
		{[]api.Step{one, ret("a")}, 0},
		{[]api.Step{one, eval("b", "a"), ret("b")}, 1},
		{[]api.Step{one, call("b", "id", "a"), ret("b")}, 1},
		{[]api.Step{one, node("f", pap("k", 2)), do("b", api.DoApply, "f", "a"), ret("b")}, 1},
		{[]api.Step{one, node("f", pap("id", 1)), do("b", api.DoApply, "f", "a"), ret("b")}, 2},
		{[]api.Step{one, node("f", pap("const", 1)), do("b", api.DoApply, "f", "a", "a"), ret("b")}, 3},
		{[]api.Step{one, node("f", pap("const", 1)), do("b", api.DoApply, "f", "a"), do("c", api.DoApply, "b", "a"), ret("c")}, 2},
		{[]api.Step{node("b", fun("seven", 0)), eval("c", "b"), ret("c")}, 2},
		{[]api.Step{node("b", fun("seven", 0)), node("c", fun("id", 1), "b"), eval("d", "c"), ret("d")}, 3},
		{[]api.Step{one, node("f", pap("id", 1)), node("c", app(1), "f", "a"), eval("d", "c"), ret("d")}, 3},
		{[]api.Step{one, whole("b", 2), update("a", "b"), prim("c", "+", i(1), i(1)), node("f", pap("k", 2)), do("g", api.DoFetch, "f"), choose(i(1), other(ret("a")))}, 0},
	} {
		for open := api.MaxStack - x.more; open <= api.MaxStack-x.more+1; open++ {
			got := does(t, deepest(open, x.l...), 5, api.MaxFuel)
			if is := got.How == api.Ended; is != (open+x.more <= api.MaxStack) || !is && got.Steps != api.MaxFuel {
				t.Errorf("%d: %d: %v", k, open, got)
			}
		}
	}
	// A step that is not as it has to be is so before.
	for _, s := range []api.Step{eval("b", "n"), do("b", api.DoApply, "n", "a"), do("b", api.DoApply, "a", "a")} {
		if got := does(t, deepest(api.MaxStack, one, s, ret("a")), 5, api.MaxFuel); got.How != api.Bad {
			t.Error(got)
		}
	}
}

// leaves is a tree of trees of 60, so deep, that waits in no place; and what is looked at in it.
func leaves(deep int) (grin.Prog, int) {
	l := []api.Step{whole("x0", 1)}
	size := 1
	for k := range deep {
		l = append(l, node(fmt.Sprint("x", k+1), con("T", 60), slices.Repeat([]string{fmt.Sprint("x", k)}, 60)...))
		size = 60*size + 1
	}
	return with(append(l, ret(fmt.Sprint("x", deep)))...), size
}

// size is how many observations it is.
func size(o api.Obs) int {
	n := 1
	for _, part := range o.L {
		n += size(part)
	}
	return n
}

func TestMaxSize(t *testing.T) {
	for deep := range 4 {
		p, n := leaves(deep)
		got := does(t, p, 40, 1000)
		if is := got.How == api.Ended; is != (n <= api.MaxSize) || is && size(got.Obs) != n || !is && !reflect.DeepEqual(got, run.Out{How: api.OutOfFuel, Steps: 1000}) {
			t.Error(deep, got.How, got.Steps)
		}
	}
	// Just as many: 5 of 3661, 27 of 61, 47 of one, and the one around.
	p, _ := leaves(2)
	f := &p.Funcs[len(p.Funcs)-1]
	f.Steps = f.Steps[:3]
	var names []string
	for name, n := range map[string]int{"x2": 5, "x1": 27} {
		names = append(names, slices.Repeat([]string{name}, n)...)
	}
	for more := range 4 {
		ones := slices.Repeat([]string{"x0"}, 60-32-1)
		last := node("y", con("L", 19+more), slices.Repeat([]string{"x0"}, 19+more)...)
		end := append(slices.Clone(f.Steps), node("z", fun("bad", 0)), last, node("w", con("T", 60), slices.Concat(names, ones, []string{"y"})...), ret("w"))
		q := with(end...)
		n := 1 + 5*3661 + 27*61 + 27 + 1 + 19 + more
		got := does(t, q, 40, 1000)
		if is := got.How == api.Ended; n < api.MaxSize-1 || is != (n <= api.MaxSize) || is && size(got.Obs) != n || !is && got.Steps != 1000 {
			t.Error(n, got.How, got.Steps)
		}
		// It is counted behind its evaluation: there a fault comes ahead of it.
		end[4].Vals[18+more].Name = "z"
		if got := does(t, with(end...), 40, 1000); got.How == api.Ended != (n <= api.MaxSize+1) || got.How == api.Ended && obs.Text(got.Obs) != "!9" {
			t.Error(n, got.How, got.Steps)
		}
	}
}

// What is cut, and functions, are looked at, too.
func TestMaxSizeOfWhatIsCut(t *testing.T) {
	p := with(whole("x", 1), node("y", con("T", 2), "x", "x"), node("z", con("T", 2), "y", "y"), update("y", "z"), ret("y"))
	for depth := range api.MaxDepth + 1 {
		got := does(t, p, depth, 100)
		n := 1<<(depth+1) - 1
		if is := got.How == api.Ended; is != (n <= api.MaxSize) || is && size(got.Obs) != n {
			t.Error(depth, got.How)
		}
	}
}

// wantLarge is wantSeen of a program that is too large to be tried with each fuel.
func wantLarge(t *testing.T, p grin.Prog, want string, steps int64) {
	t.Helper()
	if got := does(t, p, 3, steps); got.How != api.Ended || obs.Text(got.Obs) != want || got.Steps != steps {
		t.Error(got)
	}
	if got := run.Run(p, 3, steps-1); !reflect.DeepEqual(got, run.Out{How: api.OutOfFuel, Steps: steps - 1}) {
		t.Error(got)
	}
}

// Very wide and very deep programs.
func TestLarge(t *testing.T) {
	const n = api.MaxCode - 20
	var params []string
	for k := range n {
		params = append(params, fmt.Sprint("p", k))
	}
	wide := fn("f", params, ret(params[n-1]))
	wantLarge(t, of(wide, fn("main", nil, whole("x", 1), whole("y", 2), call("z", "f", append(slices.Repeat([]string{"x"}, n-1), "y")...), ret("z"))), "2", 5)
	wantLarge(t, of(wide, fn("main", nil, whole("x", 1), whole("y", 2), node("f", pap("f", 1), slices.Repeat([]string{"x"}, n-1)...), do("z", api.DoApply, "f", "y"), ret("z"))), "2", 6)
	s := fail(5)
	for k := range int64(api.MaxCode / 3) {
		s = choose(i(k), number(k, s))
	}
	wantLarge(t, of(fn("main", nil, s)), "!5", api.MaxCode/3+1)
	var steps []api.Step
	for _, name := range params[:n/2] {
		steps = append(steps, whole(name, 6))
	}
	wantLarge(t, of(fn("main", nil, append(steps, ret(params[n/2-1]))...)), "6", n/2+1)
}
