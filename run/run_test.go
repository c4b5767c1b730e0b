package run_test

import (
	"math"
	"reflect"
	"slices"
	"testing"

	"gristmill/api"
	"gristmill/flo"
	"gristmill/grin"
	"gristmill/obs"
	"gristmill/run"
)

func v(names ...string) (l []api.Val) {
	for _, name := range names {
		l = append(l, api.Val{Kind: api.ValVar, Name: name})
	}
	return l
}

func i(n int64) api.Val { return api.Val{Kind: api.ValInt, N: n} }

func d(x float64) api.Val { return bits(math.Float64bits(x)) }

func bits(n uint64) api.Val { return api.Val{Kind: api.ValFlo, N: int64(n)} }

func con(name string, n int) api.Tag { return api.Tag{Kind: api.TagCon, Name: name, N: n} }

func fun(name string, n int) api.Tag { return api.Tag{Kind: api.TagFun, Name: name, N: n} }

func pap(name string, n int) api.Tag { return api.Tag{Kind: api.TagPap, Name: name, N: n} }

func app(n int) api.Tag { return api.Tag{Kind: api.TagApp, N: n} }

var wholeTag, floatTag = api.Tag{Kind: api.TagInt}, api.Tag{Kind: api.TagFlo}

// node makes one of places.
func node(to string, t api.Tag, names ...string) api.Step {
	return api.Step{Op: api.DoNode, To: to, Tag: t, Vals: v(names...)}
}

// whole makes a node of a number.
func whole(to string, n int64) api.Step {
	return api.Step{Op: api.DoNode, To: to, Tag: wholeTag, Vals: []api.Val{i(n)}}
}

func float(to string, x float64) api.Step {
	return api.Step{Op: api.DoNode, To: to, Tag: floatTag, Vals: []api.Val{d(x)}}
}

// box makes a node of the tag of a bare number.
func box(to string, t api.Tag, x api.Val) api.Step {
	return api.Step{Op: api.DoNode, To: to, Tag: t, Vals: []api.Val{x}}
}

func do(to string, op int, names ...string) api.Step {
	return api.Step{Op: op, To: to, Vals: v(names...)}
}

func eval(to, name string) api.Step { return do(to, api.DoEval, name) }

func call(to, name string, names ...string) api.Step {
	return api.Step{Op: api.DoCall, To: to, Name: name, Vals: v(names...)}
}

func update(a, b string) api.Step { return do("", api.DoUpdate, a, b) }

func field(to, name string, n int64) api.Step {
	return api.Step{Op: api.DoField, To: to, Vals: v(name), N: n}
}

func prim(to, name string, l ...api.Val) api.Step {
	return api.Step{Op: api.DoPrim, To: to, Name: name, Vals: l}
}

func ret(name string) api.Step { return do("", api.DoRet, name) }

func fail(n int64) api.Step { return api.Step{Op: api.DoFail, N: n} }

func choose(x api.Val, l ...api.Branch) api.Step {
	return api.Step{Op: api.DoCase, Vals: []api.Val{x}, Alts: l}
}

func takes(t api.Tag, l ...api.Step) api.Branch {
	return api.Branch{Take: api.TakeCon, Tag: t, Steps: l}
}

func number(n int64, l ...api.Step) api.Branch {
	return api.Branch{Take: api.TakeInt, N: n, Steps: l}
}

func other(l ...api.Step) api.Branch { return api.Branch{Take: api.TakeAny, Steps: l} }

func of(l ...api.Func) grin.Prog { return grin.Prog{Funcs: l} }

func fn(name string, params []string, l ...api.Step) api.Func {
	return api.Func{Name: name, Params: params, Steps: l}
}

// others is functions that the tests call: what the first or the second of two is; a pair of them; one that fails; one that never ends; one that returns what it takes, a bare number too.
func others() []api.Func {
	return []api.Func{
		fn("id", []string{"a"}, ret("a")),
		fn("k", []string{"a", "b"}, ret("a")),
		fn("pair", []string{"a", "b"}, node("c", con("P", 2), "a", "b"), ret("c")),
		fn("seven", nil, whole("a", 7), ret("a")),
		fn("bad", nil, fail(9)),
		fn("loop", nil, call("a", "loop"), ret("a")),
		fn("three", nil, prim("a", "+", i(1), i(2)), ret("a")),
		fn("const", []string{"a"}, node("b", pap("k", 1), "a"), ret("b")),
	}
}

// with is a program of main, whose steps these are, and of the others.
func with(l ...api.Step) grin.Prog { return of(append(others(), fn("main", nil, l...))...) }

// does runs the program, held against the model, too.
func does(t *testing.T, p grin.Prog, depth int, fuel int64) run.Out {
	t.Helper()
	if err := grin.Valid(p); err != nil {
		t.Fatal(err, p)
	}
	got := run.Run(p, depth, fuel)
	if want := newModel(p, depth, fuel).run(); !reflect.DeepEqual(got, want) {
		t.Fatalf("%v at %d with %d: %d, %.300s, %d; want %d, %.300s, %d", p, depth, fuel, got.How, obs.Text(got.Obs), got.Steps, want.How, obs.Text(want.Obs), want.Steps)
	}
	return got
}

// wantSeen holds what the program is observed as at depth 3, and in how many steps, with as much fuel as it takes, and with less.
func wantSeen(t *testing.T, p grin.Prog, want string, steps int64) {
	t.Helper()
	got := does(t, p, 3, api.MaxFuel)
	if got.How != api.Ended || obs.Text(got.Obs) != want || got.Steps != steps || !obs.Valid(got.Obs) {
		t.Errorf("%v: %d, %s, %d; want %s, %d", p, got.How, obs.Text(got.Obs), got.Steps, want, steps)
	}
	if again := does(t, p, 3, steps); !reflect.DeepEqual(got, again) {
		t.Errorf("%v: %v", p, again)
	}
	for fuel := range min(steps, 100) {
		wantOut(t, p, api.OutOfFuel, fuel, fuel)
	}
}

// wantOut holds that nothing is observed.
func wantOut(t *testing.T, p grin.Prog, how int, steps, fuel int64) {
	t.Helper()
	if got, want := does(t, p, 3, fuel), (run.Out{How: how, Steps: steps}); !reflect.DeepEqual(got, want) {
		t.Errorf("%v with %d: %v; want %v", p, fuel, got, want)
	}
}

// wantBad holds that the last of so many steps is not as it has to be.
func wantBad(t *testing.T, p grin.Prog, steps int64) {
	t.Helper()
	wantOut(t, p, api.Bad, steps, 1000)
	wantOut(t, p, api.Bad, steps, steps)
	wantOut(t, p, api.OutOfFuel, steps-1, steps-1)
}

func TestWhatIsObserved(t *testing.T) {
	wantSeen(t, of(fn("main", nil, whole("x", 3), ret("x"))), "3", 2)
	wantSeen(t, with(whole("x", math.MinInt64), ret("x")), "-9223372036854775808", 2)
	wantSeen(t, with(float("x", 1.5), ret("x")), "3p-1", 2)
	wantSeen(t, with(box("x", floatTag, bits(0xfff8000000000001)), ret("x")), "nan", 2)
	wantSeen(t, with(float("x", math.Copysign(0, -1)), ret("x")), "-0p0", 2)
	wantSeen(t, with(node("x", con("N", 0)), ret("x")), "N", 2)
	wantSeen(t, with(node("x", pap("k", 2)), ret("x")), "<fn>", 2)
	wantSeen(t, with(whole("y", 1), node("x", pap("k", 1), "y"), ret("x")), "<fn>", 3)
	wantSeen(t, with(whole("x", 1), float("y", 2), node("z", con("P", 2), "x", "y"), node("w", con("Q", 3), "z", "x", "z"), ret("w")), "(Q (P 1 1p1) 1 (P 1 1p1))", 5)
	// What is returned is evaluated, and each field, in order; a fault is all.
	wantSeen(t, with(node("x", fun("seven", 0)), ret("x")), "7", 4)
	wantSeen(t, with(node("x", fun("seven", 0)), node("y", con("P", 2), "x", "x"), ret("y")), "(P 7 7)", 5)
	wantSeen(t, with(node("x", fun("bad", 0)), ret("x")), "!9", 3)
	wantSeen(t, with(node("x", fun("bad", 0)), node("y", fun("seven", 0)), node("z", con("P", 2), "y", "x"), ret("z")), "!9", 7)
	wantSeen(t, with(node("x", fun("bad", 0)), node("y", fun("loop", 0)), node("z", con("P", 2), "x", "y"), ret("z")), "!9", 5)
	wantOut(t, with(node("x", fun("bad", 0)), node("y", fun("loop", 0)), node("z", con("P", 2), "y", "x"), ret("z")), api.OutOfFuel, 300, 300)
	wantOut(t, with(node("x", fun("loop", 0)), ret("x")), api.OutOfFuel, 300, 300)
	wantBad(t, with(prim("x", "+", i(1), i(1)), ret("x")), 2)
}

// wantPrim holds that the prim is the number, as a node, or, if there is none, that it is a fault.
func wantPrim(t *testing.T, name string, tag api.Tag, want string, l ...api.Val) {
	t.Helper()
	steps := int64(3)
	if want[0] == '!' {
		steps = 1
	}
	wantSeen(t, with(prim("x", name, l...), box("y", tag, v("x")[0]), ret("y")), want, steps)
	// The same of variables.
	var ahead []api.Step
	var vars []api.Val
	for k, x := range l {
		kind := map[int]api.Tag{api.ValInt: wholeTag, api.ValFlo: floatTag}[x.Kind]
		node, bare := string(rune('a'+k)), string(rune('p'+k))
		ahead = append(ahead, box(node, kind, x), do(bare, api.DoOpen, node))
		vars = append(vars, v(bare)...)
	}
	wantSeen(t, with(append(ahead, prim("x", name, vars...), box("y", tag, v("x")[0]), ret("y"))...), want, steps+int64(len(ahead)))
}

func TestPrims(t *testing.T) {
	for _, x := range []struct {
		name string
		a, b int64
		want string
	}{
		{"+", math.MaxInt64, 1, "-9223372036854775808"}, {"-", 3, 5, "-2"}, {"*", 1 << 62, 4, "0"}, {"div", -7, 2, "-3"}, {"mod", -7, 2, "-1"}, {"div", math.MinInt64, -1, "-9223372036854775808"}, {"mod", math.MinInt64, -1, "0"}, {"<", 1, 2, "1"}, {"<", 2, 2, "0"}, {"=", 2, 2, "1"}, {"=", 1, 2, "0"}, {"div", 1, 0, "!-2"}, {"mod", 0, 0, "!-2"},
	} {
		wantPrim(t, x.name, wholeTag, x.want, i(x.a), i(x.b))
	}
	for _, x := range []struct {
		name string
		a, b float64
		tag  api.Tag
		want string
	}{
		{"f+", 1, 0.5, floatTag, "3p-1"}, {"f-", 1, 0.5, floatTag, "1p-1"}, {"f*", 3, -2, floatTag, "-3p1"}, {"f/", 1, 0, floatTag, "inf"}, {"f/", 0, 0, floatTag, "nan"}, {"f+", math.Inf(1), math.Inf(-1), floatTag, "nan"}, {"f<", 1, 2, wholeTag, "1"}, {"f<", 2, 1, wholeTag, "0"}, {"f=", 0, math.Copysign(0, -1), wholeTag, "1"}, {"f=", math.NaN(), math.NaN(), wholeTag, "0"}, {"f<", math.NaN(), 1, wholeTag, "0"},
	} {
		wantPrim(t, x.name, x.tag, x.want, d(x.a), d(x.b))
	}
	wantPrim(t, "float", floatTag, "3p0", i(3))
	wantPrim(t, "float", floatTag, "1p53", i(1<<53+1))
	wantPrim(t, "whole", wholeTag, "-2", d(-2.9))
	for _, x := range []float64{math.NaN(), math.Inf(1), math.Inf(-1), 1 << 63, -(1<<63 + 1<<12)} {
		wantPrim(t, "whole", wholeTag, "!-3", d(x))
	}
	// Those that are no numbers become canonical.
	p := with(prim("x", "f+", bits(0xfff8000000000001), d(1)), box("y", floatTag, v("x")[0]), ret("y"))
	if got := does(t, p, 3, 100); uint64(got.Obs.N) != flo.NaN {
		t.Error(got)
	}
}

func TestPrimsOfAnotherSort(t *testing.T) {
	place := v("p")[0]
	for _, name := range []string{"+", "-", "*", "div", "mod", "<", "=", "f+", "f-", "f*", "f/", "f<", "f="} {
		right, wrong := i(1), d(1)
		if name[0] == 'f' {
			right, wrong = wrong, right
		}
		for _, l := range [][]api.Val{{wrong, wrong}, {right, wrong}, {wrong, right}, {place, right}, {right, place}, {place, place}} {
			wantBad(t, with(whole("p", 1), prim("x", name, l...), ret("p")), 2)
		}
	}
	for _, l := range [][]api.Val{{d(1)}, {place}} {
		wantBad(t, with(whole("p", 1), prim("x", "float", l...), ret("p")), 2)
	}
	for _, l := range [][]api.Val{{i(1)}, {place}} {
		wantBad(t, with(whole("p", 1), prim("x", "whole", l...), ret("p")), 2)
	}
}

func TestNodes(t *testing.T) {
	bare := prim("n", "+", i(1), i(1))
	bareFloat := prim("n", "f+", d(1), d(1))
	// Of a bare tag a number of its sort.
	wantSeen(t, with(bare, box("x", wholeTag, v("n")[0]), ret("x")), "2", 3)
	wantSeen(t, with(bareFloat, box("x", floatTag, v("n")[0]), ret("x")), "1p1", 3)
	for _, s := range []api.Step{box("x", wholeTag, d(1)), box("x", floatTag, i(1)), node("x", wholeTag, "p"), node("x", floatTag, "p")} {
		wantBad(t, with(whole("p", 1), s, ret("p")), 2)
	}
	wantBad(t, with(bare, node("x", floatTag, "n"), ret("x")), 2)
	wantBad(t, with(bareFloat, node("x", wholeTag, "n"), ret("x")), 2)
	// Of another one places.
	for _, s := range []api.Step{node("x", con("P", 2), "p", "n"), node("x", con("S", 1), "n"), node("x", fun("id", 1), "n"), node("x", pap("k", 1), "n"), node("x", app(1), "n", "p"), node("x", app(1), "p", "n")} {
		wantBad(t, with(whole("p", 1), bare, s, ret("p")), 3)
		wantBad(t, with(whole("p", 1), bareFloat, s, ret("p")), 3)
	}
	// Those that wait are not evaluated for that.
	wantSeen(t, with(node("b", fun("bad", 0)), node("x", app(1), "b", "b"), node("y", fun("k", 2), "x", "b"), node("z", pap("pair", 1), "y"), ret("z")), "<fn>", 5)
}

func TestFetch(t *testing.T) {
	for _, s := range []api.Step{whole("x", 3), float("x", 3), node("x", con("N", 0)), node("x", pap("k", 2))} {
		p := with(s, do("y", api.DoFetch, "x"), ret("y"))
		if got := does(t, p, 3, 100); got.How != api.Ended || got.Steps != 3 {
			t.Error(got)
		}
	}
	// It is the same place.
	wantSeen(t, with(whole("x", 3), do("y", api.DoFetch, "x"), whole("z", 4), update("x", "z"), ret("y")), "4", 5)
	wantBad(t, with(node("x", fun("seven", 0)), do("y", api.DoFetch, "x"), ret("y")), 2)
	wantBad(t, with(node("k", pap("k", 2)), node("x", app(1), "k", "k"), do("y", api.DoFetch, "x"), ret("y")), 3)
	wantBad(t, with(prim("x", "+", i(1), i(1)), do("y", api.DoFetch, "x"), ret("y")), 2)
	// Behind its evaluation it waits no more.
	wantSeen(t, with(node("x", fun("seven", 0)), eval("e", "x"), do("y", api.DoFetch, "x"), ret("y")), "7", 6)
}

func TestUpdate(t *testing.T) {
	wantSeen(t, with(whole("x", 1), node("y", con("S", 1), "x"), node("z", con("P", 2), "x", "y"), update("x", "y"), eval("w", "z"), ret("w")), "(P (S (S _)) (S (S _)))", 6)
	// What is there then, not what becomes of the other one later.
	wantSeen(t, with(whole("x", 1), whole("y", 2), update("x", "y"), whole("z", 3), update("y", "z"), node("w", con("P", 2), "x", "y"), ret("w")), "(P 2 3)", 7)
	wantSeen(t, with(whole("x", 1), update("x", "x"), ret("x")), "1", 3)
	// A copy of what waits waits for itself.
	wantSeen(t, with(node("x", fun("seven", 0)), whole("y", 1), update("y", "x"), node("z", con("P", 2), "x", "y"), ret("z")), "(P 7 7)", 9)
	bare := prim("n", "+", i(1), i(1))
	wantBad(t, with(whole("x", 1), bare, update("x", "n"), ret("x")), 3)
	wantBad(t, with(whole("x", 1), bare, update("n", "x"), ret("x")), 3)
}

func TestCalls(t *testing.T) {
	wantSeen(t, with(whole("x", 1), whole("y", 2), call("z", "pair", "x", "y"), ret("z")), "(P 1 2)", 6)
	wantSeen(t, with(whole("x", 1), whole("y", 2), call("z", "k", "y", "x"), call("w", "k", "x", "z"), node("u", con("P", 2), "z", "w"), ret("u")), "(P 2 1)", 8)
	// A bare number is taken and returned, and what waits is not evaluated.
	wantSeen(t, with(call("n", "three"), call("m", "id", "n"), prim("s", "*", v("n", "m")...), box("x", wholeTag, v("s")[0]), ret("x")), "9", 8)
	wantSeen(t, with(node("b", fun("bad", 0)), whole("x", 1), call("y", "id", "b"), call("z", "k", "x", "b"), ret("z")), "1", 7)
	wantSeen(t, with(call("x", "bad"), call("y", "loop"), ret("y")), "!9", 2)
	wantOut(t, with(call("x", "loop"), call("y", "bad"), ret("y")), api.OutOfFuel, 200, 200)
	// Each call has its own variables.
	f := fn("f", []string{"n", "l"}, prim("m", "-", i(1), v("n")[0]), box("h", wholeTag, v("n")[0]), node("x", con("P", 2), "h", "l"), choose(v("n")[0], number(0, node("w", con("P", 2), "h", "x"), ret("w")), other(call("y", "f", "m", "x"), node("z", con("P", 2), "h", "y"), ret("z"))))
	wantSeen(t, of(f, fn("main", nil, node("l", con("N", 0)), prim("n", "+", i(1), i(0)), call("x", "f", "n", "l"), ret("x"))), "(P 1 (P 0 (P 0 _)))", 17)
}

func TestOpenAndField(t *testing.T) {
	bare := prim("n", "+", i(1), i(1))
	wantSeen(t, with(whole("x", 3), do("n", api.DoOpen, "x"), box("y", wholeTag, v("n")[0]), ret("y")), "3", 4)
	wantSeen(t, with(float("x", 3), do("n", api.DoOpen, "x"), box("y", floatTag, v("n")[0]), ret("y")), "3p0", 4)
	for _, s := range []api.Step{node("x", con("S", 1), "p"), node("x", pap("k", 1), "p"), node("x", fun("id", 1), "p"), node("x", app(1), "p", "p")} {
		wantBad(t, with(whole("p", 3), s, do("n", api.DoOpen, "x"), ret("p")), 3)
		// Each has fields, those that wait too, and none behind its last one.
		wantSeen(t, with(whole("p", 3), s, field("f", "x", 0), ret("f")), "3", 4)
		n := int64(len(s.Vals))
		wantSeen(t, with(whole("p", 3), s, field("f", "x", n-1), ret("f")), "3", 4)
		for _, n := range []int64{n, n + 1, 1 << 32, math.MaxInt64} {
			wantBad(t, with(whole("p", 3), s, field("f", "x", n), ret("p")), 3)
		}
	}
	wantSeen(t, with(whole("p", 1), float("q", 2), node("x", con("P", 2), "p", "q"), field("f", "x", 1), ret("f")), "1p1", 5)
	wantBad(t, with(bare, do("m", api.DoOpen, "n"), ret("m")), 2)
	wantBad(t, with(bare, field("m", "n", 0), ret("m")), 2)
	wantBad(t, with(node("x", con("N", 0)), field("f", "x", 0), ret("x")), 2)
	// The field of a bare one is its number.
	wantSeen(t, with(whole("x", 3), field("n", "x", 0), prim("m", "+", v("n", "n")...), box("y", wholeTag, v("m")[0]), ret("y")), "6", 5)
	wantSeen(t, with(float("x", 3), field("n", "x", 0), box("y", floatTag, v("n")[0]), ret("y")), "3p0", 4)
	wantBad(t, with(whole("x", 3), field("n", "x", 1), ret("x")), 2)
	// A field is a place, what is there is not evaluated.
	wantSeen(t, with(node("b", fun("bad", 0)), node("x", con("S", 1), "b"), field("f", "x", 0), ret("x")), "!9", 5)
	wantSeen(t, with(node("b", fun("seven", 0)), node("x", con("S", 1), "b"), field("f", "x", 0), eval("e", "f"), ret("x")), "(S 7)", 7)
}

func TestCases(t *testing.T) {
	// Of a place by its tag: the Kind, the Name and the N.
	tags := []api.Tag{con("S", 1), con("S", 0), con("S", 2), con("T", 1), pap("S", 1), fun("S", 1), wholeTag, floatTag, app(1), app(2)}
	s := fn("S", []string{"a", "b"}, ret("a"))
	for k, x := range tags {
		steps := []api.Step{whole("p", 7), {Op: api.DoNode, To: "x", Tag: x}}
		switch x.Kind {
		case api.TagInt:
			steps[1] = whole("x", 7)
		case api.TagFlo:
			steps[1] = float("x", 7)
		case api.TagFun:
			steps = []api.Step{whole("p", 7), node("x", fun("id", 1), "p")}
			x = fun("id", 1)
		case api.TagApp:
			steps[1].Vals = v(slices.Repeat([]string{"p"}, x.N+1)...)
		default:
			steps[1].Vals = v(slices.Repeat([]string{"p"}, x.N)...)
		}
		var alts []api.Branch
		for n, y := range tags {
			if y.Kind == api.TagFun {
				y = fun("id", 1)
			}
			alts = append(alts, takes(y, whole("y", int64(n)), ret("y")))
			alts[n].Steps[0].To = string(rune('a' + n))
			alts[n].Steps[1].Vals = v(string(rune('a' + n)))
		}
		// One that takes a number takes no place.
		alts = append([]api.Branch{number(7, fail(1))}, alts...)
		p := of(s, fn("id", []string{"a"}, ret("a")), fn("main", nil, append(steps, choose(v("x")[0], alts...))...))
		wantSeen(t, p, string(rune('0'+k)), 5)
		without := of(s, fn("id", []string{"a"}, ret("a")), fn("main", nil, append(steps, choose(v("x")[0], slices.Delete(alts, k+1, k+2)...))...))
		wantBad(t, without, 3)
	}
}

func TestCasesOfNumbers(t *testing.T) {
	all := []api.Branch{takes(wholeTag, fail(1)), number(1, fail(2)), number(-1, fail(3)), number(1, fail(4)), takes(floatTag, fail(5)), other(fail(6)), number(2, fail(7)), other(fail(8))}
	for n, want := range map[int64]string{1: "!2", -1: "!3", 2: "!6", 0: "!6", math.MinInt64: "!6"} {
		wantSeen(t, with(choose(i(n), all...)), want, 2)
		wantSeen(t, with(prim("n", "+", i(n), i(0)), choose(v("n")[0], all...)), want, 3)
	}
	wantSeen(t, with(choose(d(1), all...)), "!6", 2)
	wantSeen(t, with(choose(bits(1), all...)), "!6", 2)
	wantSeen(t, with(prim("n", "f+", d(1), d(0)), choose(v("n")[0], all...)), "!6", 3)
	for _, l := range [][]api.Branch{all[:1], all[2:3], all[:5]} {
		wantBad(t, with(choose(i(3), l...)), 1)
		wantBad(t, with(choose(d(1), l...)), 1)
	}
	wantBad(t, with(choose(bits(1), all[:5]...)), 1)
	// What a branch binds, and what is bound ahead of it.
	wantSeen(t, with(whole("x", 1), choose(i(2), number(1, whole("y", 5), ret("y")), number(2, whole("z", 6), node("w", con("P", 2), "x", "z"), choose(v("w")[0], takes(con("P", 2), whole("u", 7), node("t", con("Q", 3), "u", "z", "x"), ret("t")))))), "(Q 7 6 1)", 8)
}

func TestFaults(t *testing.T) {
	for n, want := range map[int64]string{0: "!0", 7: "!7", 1<<31 - 1: "!2147483647", 1 << 31: "!-1", 1<<31 + 1: "!2147483649", math.MaxInt64: "!9223372036854775807"} {
		wantSeen(t, with(fail(n)), want, 1)
		wantSeen(t, of(fn("f", nil, fail(n)), fn("main", nil, node("x", fun("f", 0)), node("y", con("S", 1), "x"), ret("y"))), want, 4)
	}
}
