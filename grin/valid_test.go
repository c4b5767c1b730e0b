package grin_test

import (
	"errors"
	"fmt"
	"math"
	"slices"
	"strconv"
	"testing"

	"gristmill/api"
	"gristmill/grin"
	"gristmill/num"
	"gristmill/tag"
)

func of(l ...api.Func) grin.Prog { return grin.Prog{Funcs: l} }

func fn(name string, params []string, l ...api.Step) api.Func {
	return api.Func{Name: name, Params: params, Steps: l}
}

// main is a program of that one function, whose steps these are.
func main(l ...api.Step) grin.Prog { return of(fn("main", nil, l...)) }

// with is a program of main, whose steps these are, behind a node x; and of functions of no to three parameters.
func with(l ...api.Step) grin.Prog {
	return of(fn("main", nil, append([]api.Step{whole("x")}, l...)...), fn("f0", nil, fail), fn("f1", []string{"a"}, fail), fn("f2", []string{"a", "b"}, fail), fn("f3", []string{"a", "b", "x"}, fail))
}

func v(names ...string) (l []api.Val) {
	for _, name := range names {
		l = append(l, api.Val{Kind: api.ValVar, Name: name})
	}
	return l
}

func i(numbers ...int64) (l []api.Val) {
	for _, n := range numbers {
		l = append(l, api.Val{Kind: api.ValInt, N: n})
	}
	return l
}

func d(bits ...int64) (l []api.Val) {
	for _, n := range bits {
		l = append(l, api.Val{Kind: api.ValFlo, N: n})
	}
	return l
}

// do is a step whose answer, if it has one, goes to y.
func do(op int, l ...api.Val) api.Step {
	if slices.Contains([]int{api.DoUpdate, api.DoCase, api.DoFail, api.DoRet}, op) {
		return api.Step{Op: op, Vals: l}
	}
	return api.Step{Op: op, To: "y", Vals: l}
}

func node(to string, t api.Tag, l ...api.Val) api.Step {
	return api.Step{Op: api.DoNode, To: to, Tag: t, Vals: l}
}

func whole(to string) api.Step { return node(to, api.Tag{Kind: api.TagInt}, i(1)...) }

func call(name string, l ...api.Val) api.Step {
	return api.Step{Op: api.DoCall, To: "y", Name: name, Vals: l}
}

func prim(name string, l ...api.Val) api.Step {
	return api.Step{Op: api.DoPrim, To: "y", Name: name, Vals: l}
}

func ret(name string) api.Step { return do(api.DoRet, v(name)...) }

var fail = api.Step{Op: api.DoFail}

func choose(v api.Val, l ...api.Branch) api.Step {
	return api.Step{Op: api.DoCase, Vals: []api.Val{v}, Alts: l}
}

func other(l ...api.Step) api.Branch { return api.Branch{Take: api.TakeAny, Steps: l} }

func con(name string, n int) api.Tag { return api.Tag{Kind: api.TagCon, Name: name, N: n} }

func fun(name string, n int) api.Tag { return api.Tag{Kind: api.TagFun, Name: name, N: n} }

func pap(name string, n int) api.Tag { return api.Tag{Kind: api.TagPap, Name: name, N: n} }

func app(n int) api.Tag { return api.Tag{Kind: api.TagApp, N: n} }

// to is the step with an answer that goes there.
func to(name string, s api.Step) api.Step {
	s.To = name
	return s
}

// names is so many names that differ.
func names(n int) (l []string) {
	for k := range n {
		l = append(l, "n"+strconv.Itoa(k))
	}
	return l
}

// show is the first few hundred bytes of the program; it may be one without an end.
func show(p grin.Prog) string {
	s := ""
	var steps func(l []api.Step)
	steps = func(l []api.Step) {
		for _, x := range l {
			if len(s) > 600 {
				return
			}
			s += fmt.Sprint("(", x.Op, " ", x.To, " ", x.Name, " ", x.Tag, " ", x.Vals[:min(len(x.Vals), 9)], " ", x.N)
			for _, b := range x.Alts {
				s += fmt.Sprint("(", b.Take, " ", b.Tag, " ", b.N)
				steps(b.Steps)
				s += ")"
			}
			s += ")"
		}
	}
	for _, f := range p.Funcs {
		if len(s) < 600 {
			s += fmt.Sprintf(" %.20q %.20q:", f.Name, f.Params[:min(len(f.Params), 9)])
		}
		steps(f.Steps)
	}
	return fmt.Sprintf("%.600s", s)
}

// alone is the place of an error without one.
const alone = -1

// wantError holds what Valid tells of each program against an At around want; against want alone, if place is alone.
func wantError(t *testing.T, place int, want error, l ...grin.Prog) {
	t.Helper()
	for k, p := range l {
		err := grin.Valid(p)
		at, _ := err.(*api.At)
		if (at != nil) != (place != alone) || at != nil && *at != (api.At{Pos: place, Err: want}) || at == nil && err != want {
			t.Errorf("program %d, %s: %v; want %d: %v", k, show(p), err, place, want)
		}
		if !errors.Is(err, want) {
			t.Errorf("program %d: %v is not %v", k, err, want)
		}
	}
}

func wantValid(t *testing.T, l ...grin.Prog) {
	t.Helper()
	wantError(t, alone, nil, l...)
}

func TestValid(t *testing.T) {
	wantValid(t, main(whole("x"), ret("x")), main(fail), with(ret("x")))
	wantValid(t, with(
		node("t", con("C", 2), v("x", "x")...), node("c", fun("f2", 2), v("t", "x")...), node("p", pap("f3", 2), v("t")...), node("a", app(2), v("p", "x", "c")...),
		node("f", api.Tag{Kind: api.TagFlo}, d(math.MaxInt64)...),
		to("y1", do(api.DoFetch, v("x")...)), do(api.DoUpdate, v("x", "t")...), to("y2", call("f2", v("y1", "f")...)), to("y3", do(api.DoEval, v("a")...)), to("y4", do(api.DoApply, v("p", "x", "y3")...)),
		to("n", do(api.DoOpen, v("x")...)), to("m", prim("+", append(v("n"), i(-3)...)...)), to("e", do(api.DoField, v("t")...)), node("z", api.Tag{Kind: api.TagInt}, v("m")...),
		choose(v("y4")[0], api.Branch{Take: api.TakeCon, Tag: con("C", 2), Steps: []api.Step{to("b", call("f1", v("e")...)), ret("b")}}, api.Branch{Take: api.TakeInt, N: -7, Steps: []api.Step{fail}}, other(choose(v("m")[0], other(ret("z"))))),
	))
}

func TestErrMain(t *testing.T) {
	f := fn("f", nil, fail)
	wantError(t, alone, api.ErrMain, of(), grin.Prog{Funcs: []api.Func{}}, of(f), of(fn("main", []string{"x"}, ret("x"))), of(f, fn("main", names(3), fail)), of(fn("Main", nil, fail)), of(fn("main ", nil, fail)), of(fn("main\x00", nil, fail)))
	wantValid(t, of(f, fn("main", []string{}, fail)), of(fn("main", nil, fail), f), of(f, fn("main", nil, fail), fn("g", nil, fail)))
	// Whatever else is wrong comes ahead of it.
	wantError(t, 0, api.ErrShape, of(fn("f", nil)))
	wantError(t, 1, api.ErrTwice, of(f, f), of(fn("main", []string{"x"}, ret("x")), fn("main", nil, fail)))
	wantError(t, 0, api.ErrBound, of(fn("main", []string{"x"}, ret("y"))))
}

func TestErrName(t *testing.T) {
	wantError(t, 0, api.ErrName, of(fn("", nil)), of(fn("", []string{"", ""}, ret("x"))), of(fn("", nil, fail), fn("main", nil, fail)))
	wantError(t, 1, api.ErrName, of(fn("main", nil, fail), fn("", nil, fail)), of(fn("main", nil, fail), fn("", nil), fn("", nil)))
	// Any other name may be one.
	for _, name := range []string{" ", "\x00", "F", "+", "case", "\xff", "f f", string(make([]byte, 1<<16))} {
		wantValid(t, of(fn("main", nil, fail), fn(name, nil, fail)))
	}
}

func TestErrTwice(t *testing.T) {
	m, f := fn("main", nil, fail), fn("f", nil, fail)
	wantError(t, 1, api.ErrTwice, of(m, m), of(f, f, m), of(m, fn("main", nil)), of(m, fn("main", []string{"x"}, fail)), of(f, fn("f", []string{"", ""})))
	wantError(t, 2, api.ErrTwice, of(m, f, m), of(m, f, f), of(m, f, f, m), of(f, m, f, fn("", nil)))
	wantError(t, 3, api.ErrTwice, of(m, f, fn("F", nil, fail), f), of(m, fn("f ", nil, fail), f, fn("f ", nil, fail)))
	for _, l := range [][]string{{""}, {"", ""}, {"x", ""}, {"", "x"}, {"x", "x"}, {"x", "y", "x"}, {"y", "x", "x"}, append(names(300), "n0"), append(names(300), "n299"), append(names(300), "")} {
		wantError(t, 0, api.ErrTwice, of(fn("f", l, fail), m), of(fn("f", l)), of(fn("main", l, ret("none"))))
		wantError(t, 1, api.ErrTwice, of(m, fn("f", l, fail)))
	}
	// A parameter may have the name of one of another function, or of a function.
	wantValid(t, of(m, fn("f", []string{"main", "f"}, ret("f")), fn("g", []string{"f", "main"}, ret("main")), fn("h", names(300), fail)))
}

// What a function names may stand in any place; of two of a name the first is meant.
func TestFunctionsOfOneName(t *testing.T) {
	m := fn("main", nil, call("f"), ret("y"))
	one, two := fn("f", nil, fail), fn("f", []string{"x"}, fail)
	wantValid(t, of(m, one), of(one, m))
	wantError(t, 0, api.ErrArity, of(m, two), of(m, two, one))
	wantError(t, 1, api.ErrArity, of(two, m), of(two, m, one))
	wantError(t, 2, api.ErrTwice, of(m, one, two))
	wantError(t, 1, api.ErrTwice, of(one, two, m))
	// One with an empty name is a function till its place comes.
	wantError(t, 1, api.ErrName, of(fn("main", nil, call(""), ret("y")), fn("", nil, fail)))
	wantError(t, 0, api.ErrNone, of(fn("main", nil, call(""), ret("y"))))
	wantValid(t, of(fn("main", nil, call("main"), ret("y"))))
}

func TestErrShape(t *testing.T) {
	// No step at all.
	wantError(t, 0, api.ErrShape, main(), of(fn("main", nil, []api.Step{}...)), with(choose(v("x")[0], other())), with(choose(v("x")[0], other(fail), other())), with(choose(v("x")[0], other(choose(v("x")[0], other())))))
	// No such Op.
	for _, op := range []int{0, -1, 13, 14, math.MinInt, math.MaxInt, -api.DoRet, api.DoRet + 1<<32} {
		wantError(t, 0, api.ErrShape, main(api.Step{Op: op}), with(do(op, v("x")...), ret("x")), with(do(op, v("x")...)))
	}
	// One that ends, and isn't the last; one that doesn't, and is.
	last := choose(v("x")[0], other(fail))
	for _, s := range []api.Step{fail, ret("x"), last} {
		wantValid(t, with(s), with(whole("y"), s))
		wantError(t, 0, api.ErrShape, with(s, whole("y")), with(s, s), with(s, whole("y"), s), with(choose(v("x")[0], other(s, s))))
	}
	for _, s := range []api.Step{whole("y"), do(api.DoFetch, v("x")...), do(api.DoUpdate, v("x", "x")...), call("f0"), do(api.DoEval, v("x")...), do(api.DoApply, v("x", "x")...), prim("float", i(1)...), do(api.DoOpen, v("x")...), do(api.DoField, v("x")...)} {
		wantValid(t, with(s, fail), with(s, ret("x")), with(s, last))
		wantError(t, 0, api.ErrShape, with(s), with(choose(v("x")[0], other(s))), with(choose(v("x")[0], other(fail), other(whole("z"), s))))
		// Only a DoCase has Alts.
		s.Alts = []api.Branch{other(fail)}
		wantError(t, 0, api.ErrShape, with(s, fail))
		s.Alts = []api.Branch{}
		wantValid(t, with(s, fail))
	}
	for _, s := range []api.Step{fail, ret("x")} {
		s.Alts = []api.Branch{other(fail)}
		wantError(t, 0, api.ErrShape, with(s), with(choose(v("x")[0], other(s))))
	}
}

// A DoFail, a DoField have no N below 0; what N others have is nothing to them.
func TestErrShapeOfN(t *testing.T) {
	for _, n := range []int64{0, 1, 60, 61, 1 << 31, 1<<31 + 1, math.MaxInt64, -1, -2, math.MinInt64} {
		field, failing := do(api.DoField, v("x")...), fail
		field.N, failing.N = n, n
		l := []grin.Prog{with(field, fail), with(failing), with(choose(v("x")[0], other(field, fail))), with(choose(v("x")[0], other(failing)))}
		if n < 0 {
			wantError(t, 0, api.ErrShape, l...)
		} else {
			wantValid(t, l...)
		}
		for _, s := range []api.Step{whole("y"), do(api.DoFetch, v("x")...), do(api.DoUpdate, v("x", "x")...), call("f0"), do(api.DoEval, v("x")...), do(api.DoApply, v("x", "x")...), prim("float", i(1)...), do(api.DoOpen, v("x")...)} {
			s.N = n
			wantValid(t, with(s, fail))
		}
		end, choice := ret("x"), choose(v("x")[0], api.Branch{Take: api.TakeAny, N: n, Steps: []api.Step{fail}}, api.Branch{Take: api.TakeInt, N: n, Steps: []api.Step{fail}})
		end.N, choice.N = n, n
		wantValid(t, with(end), with(choice))
	}
}

// as is the step with so many values, each of them x.
func as(s api.Step, n int) api.Step {
	s.Vals = nil
	for range n {
		s.Vals = append(s.Vals, v("x")...)
	}
	return s
}

func TestErrArity(t *testing.T) {
	many := 1000
	takes := func(s api.Step, least, most int) {
		t.Helper()
		for _, n := range []int{0, 1, 2, 3, 4, 5, 60, 61, many} {
			p := with(as(s, n), fail)
			if s.Op == api.DoCase || s.Op == api.DoFail || s.Op == api.DoRet {
				p = with(as(s, n))
			}
			if n < least || n > most {
				wantError(t, 0, api.ErrArity, p)
			} else {
				wantValid(t, p)
			}
		}
	}
	for _, op := range []int{api.DoFetch, api.DoEval, api.DoOpen, api.DoField, api.DoRet} {
		takes(do(op), 1, 1)
	}
	takes(choose(api.Val{}, other(fail)), 1, 1)
	takes(do(api.DoUpdate), 2, 2)
	takes(do(api.DoApply), 2, many)
	takes(fail, 0, 0)
	for n, name := range []string{"f0", "f1", "f2", "f3"} {
		takes(call(name), n, n)
		takes(node("y", fun(name, n)), n, n)
		for lacks := 1; lacks <= n; lacks++ {
			takes(node("y", pap(name, lacks)), n-lacks, n-lacks)
		}
	}
	for _, n := range []int{0, 1, 2, 3, 60} {
		takes(node("y", con("C", n)), n, n)
		if n > 0 {
			takes(node("y", app(n)), n+1, n+1)
		}
	}
	takes(node("y", api.Tag{Kind: api.TagInt}), 1, 1)
	takes(node("y", api.Tag{Kind: api.TagFlo}), 1, 1)
	for _, name := range num.Prims() {
		if n, _ := num.Arity(name); name == "seq" {
			takes(prim(name), 1, 0)
		} else {
			takes(prim(name), n, n)
		}
	}
	for _, name := range []string{"", "q", "f0", "main", "seq ", "+ ", " +", "F+", "f"} {
		takes(prim(name), 1, 0)
	}
}

// A DoPrim of each name of the language; one of a function's name is none.
func TestPrims(t *testing.T) {
	wantValid(t, with(prim("float", i(1)...), fail), with(prim("whole", d(1)...), fail), with(prim("+", i(1, 2)...), fail), with(prim("f<", d(1, 2)...), fail), with(prim("div", i(1, 0)...), fail),
		// What sort its numbers are is not asked.
		with(prim("f+", i(1, 2)...), fail), with(prim("float", d(1)...), fail), with(prim("mod", append(d(1), v("x")...)...), fail))
	p := with(prim("f1", v("x")...), fail)
	wantError(t, 0, api.ErrArity, p)
	// The name of another step is nothing to it.
	s := whole("y")
	s.Name = "seq"
	wantValid(t, with(s, fail))
}

func TestNodesOfFunctions(t *testing.T) {
	wantError(t, 0, api.ErrNone, with(node("y", fun("f", 0)), fail), with(node("y", fun("x", 0)), fail), with(node("y", pap("f", 1)), fail), with(node("y", fun("f", 60)), fail), with(node("y", pap("+", 60)), fail), with(call("f"), fail), with(call("x", v("x")...), fail), with(call("f", v("x")...), fail), with(call(""), fail), with(call("F1", v("x")...), fail), with(call("+", v("x", "x")...), fail))
	for n, name := range []string{"f0", "f1", "f2", "f3"} {
		for _, k := range []int{0, 1, 2, 3, 4, 60} {
			for _, vals := range []int{0, 1, 2, 3, 4} {
				call, lacks := with(as(node("y", fun(name, k)), vals), fail), with(as(node("y", pap(name, k)), vals), fail)
				if k == n && vals == k {
					wantValid(t, call)
				} else {
					wantError(t, 0, api.ErrArity, call)
				}
				switch {
				case k == 0:
					wantError(t, 0, api.ErrTag, lacks)
				case k <= n && vals == n-k:
					wantValid(t, lacks)
				default:
					wantError(t, 0, api.ErrArity, lacks)
				}
			}
		}
	}
	// A function may have more parameters than a tag may tell.
	long := func(params int, l ...api.Step) grin.Prog {
		return of(fn("main", nil, append([]api.Step{whole("x")}, l...)...), fn("f", names(params), fail))
	}
	wantValid(t, long(60, as(node("y", fun("f", 60)), 60), fail), long(60, node("y", pap("f", 60)), fail), long(61, as(node("y", pap("f", 60)), 1), fail), long(1000, as(node("y", pap("f", 1)), 999), fail), long(61, as(call("f"), 61), fail))
	wantError(t, 0, api.ErrTag, long(61, as(node("y", fun("f", 61)), 61), fail), long(61, node("y", pap("f", 61)), fail))
	wantError(t, 0, api.ErrArity, long(61, as(node("y", fun("f", 60)), 60), fail), long(59, node("y", pap("f", 60)), fail))
	// A constructor may have the name of a function, of as many or not.
	wantValid(t, of(fn("main", nil, whole("x"), as(node("y", con("F", 2)), 2), as(node("z", fun("F", 1)), 1), fail), fn("F", []string{"a"}, fail)))
}

func TestErrTag(t *testing.T) {
	for _, x := range []api.Tag{{}, {Kind: -1}, {Kind: 7}, con("", 0), con("c", 0), con("C", -1), con("C", 61), fun("", 0), fun("f1", -1), fun("f1", 61), pap("", 1), pap("f1", 0), pap("f1", -1), pap("f1", 61), app(0), app(-1), app(61), {Kind: api.TagApp, Name: "A", N: 1}, {Kind: api.TagInt, Name: "I"}, {Kind: api.TagInt, N: 1}, {Kind: api.TagFlo, Name: "D"}, {Kind: api.TagFlo, N: -1}} {
		if tag.Valid(x) {
			t.Fatal(x)
		}
		for _, n := range []int{0, 1, 2} {
			wantError(t, 0, api.ErrTag, with(as(node("y", x), n), fail))
		}
		wantError(t, 0, api.ErrTag, with(choose(v("x")[0], api.Branch{Take: api.TakeCon, Tag: x})), with(choose(v("x")[0], other(fail), api.Branch{Take: api.TakeCon, Tag: x, Steps: []api.Step{fail}})))
		// Where no tag is asked for, none is looked at.
		s := do(api.DoFetch, v("x")...)
		s.Tag = x
		wantValid(t, with(s, fail), with(choose(v("x")[0], api.Branch{Take: api.TakeInt, Tag: x, Steps: []api.Step{fail}}, api.Branch{Take: api.TakeAny, Tag: x, Steps: []api.Step{fail}})))
	}
	// A branch may take any that is Valid, whatever functions there are.
	for _, x := range []api.Tag{con("C", 0), con("C", 60), fun("f1", 1), fun("f1", 60), fun("none", 0), pap("f1", 1), pap("none", 60), app(1), app(60), {Kind: api.TagInt}, {Kind: api.TagFlo}} {
		wantValid(t, with(choose(v("x")[0], api.Branch{Take: api.TakeCon, Tag: x, Steps: []api.Step{fail}})))
	}
	for _, take := range []int{0, -1, 4, math.MinInt, math.MaxInt} {
		wantError(t, 0, api.ErrTag, with(choose(v("x")[0], api.Branch{Take: take, Steps: []api.Step{fail}})), with(choose(v("x")[0], api.Branch{Take: take, Tag: con("C", 1)})), with(choose(v("x")[0], other(fail), api.Branch{Take: take})))
	}
}

// What a bare node has is a number of either sort, or a variable; others have variables alone.
func TestBareNumbers(t *testing.T) {
	for _, l := range [][]api.Val{i(3), d(3), v("x")} {
		for _, kind := range []int{api.TagInt, api.TagFlo} {
			wantValid(t, with(node("y", api.Tag{Kind: kind}, l...), fail))
			// Its tag is asked for only then.
			wantError(t, 0, api.ErrTag, with(node("y", api.Tag{Kind: kind, Name: "I"}, l...), fail))
		}
		wantValid(t, with(choose(l[0], other(fail))), with(prim("float", l...), fail))
	}
	for _, n := range append(i(3, 0), d(3, 0)...) {
		for _, s := range []api.Step{
			node("y", con("C", 1), n), node("y", con("C", 2), v("x")[0], n), node("y", fun("f1", 1), n), node("y", pap("f2", 1), n), node("y", app(1), v("x")[0], n), node("y", app(1), n, v("x")[0]), node("y", api.Tag{}, n), node("y", api.Tag{Kind: 7}, n),
			do(api.DoFetch, n), do(api.DoUpdate, n, v("x")[0]), do(api.DoUpdate, v("x")[0], n), call("f1", n), call("f2", v("x")[0], n), do(api.DoEval, n), do(api.DoApply, n, v("x")[0]), do(api.DoApply, v("x")[0], n), do(api.DoApply, v("x")[0], v("x")[0], n), do(api.DoOpen, n), do(api.DoField, n),
		} {
			wantError(t, 0, api.ErrBound, with(s, fail))
		}
		wantError(t, 0, api.ErrBound, with(do(api.DoRet, n)))
	}
}

func TestErrBoundOfValues(t *testing.T) {
	steps := func(x api.Val) []api.Step {
		return []api.Step{
			node("y", api.Tag{Kind: api.TagInt}, x), node("y", con("C", 1), x), do(api.DoFetch, x), do(api.DoUpdate, x, v("x")[0]), do(api.DoUpdate, v("x")[0], x), call("f1", x), do(api.DoEval, x),
			do(api.DoApply, x, v("x")[0]), do(api.DoApply, v("x")[0], x), do(api.DoApply, v("x")[0], v("x")[0], x), prim("float", x), prim("+", x, v("x")[0]), prim("+", i(1)[0], x), do(api.DoOpen, x), do(api.DoField, x),
		}
	}
	for _, x := range []api.Val{{}, {Name: "x"}, {Kind: -1, Name: "x"}, {Kind: 4, Name: "x"}, {Kind: math.MaxInt, Name: "x"}, {Kind: api.ValVar}, {Kind: api.ValVar, Name: "y"}, {Kind: api.ValVar, Name: "X"}, {Kind: api.ValVar, Name: "f1"}, {Kind: api.ValVar, Name: "z"}, {Kind: api.ValVar, Name: "x "}} {
		for _, s := range steps(x) {
			wantError(t, 0, api.ErrBound, with(s, fail), with(s, whole("z"), fail), with(choose(v("x")[0], other(s, fail))))
		}
		for _, s := range []api.Step{do(api.DoRet, x), choose(x, other(fail)), choose(x)} {
			wantError(t, 0, api.ErrBound, with(s), with(choose(v("x")[0], other(s))))
		}
	}
	for _, s := range steps(api.Val{Kind: api.ValVar, Name: "x", N: 7}) {
		wantValid(t, with(s, fail))
	}
	// The name of a number is nothing to it.
	wantValid(t, with(prim("float", api.Val{Kind: api.ValInt, Name: "none"}), fail))
}

func TestErrBoundOfTo(t *testing.T) {
	for _, s := range []api.Step{whole("y"), do(api.DoFetch, v("x")...), call("f0"), do(api.DoEval, v("x")...), do(api.DoApply, v("x", "x")...), prim("float", i(1)...), do(api.DoOpen, v("x")...), do(api.DoField, v("x")...)} {
		for _, name := range []string{"", "x", "p"} {
			wrong := with(to(name, s), fail)
			wrong.Funcs[0].Name, wrong.Funcs[0].Params = "f", []string{"p", "q"}
			wantError(t, 0, api.ErrBound, wrong)
		}
		wantError(t, 0, api.ErrBound, with(s, s, fail), with(s, choose(v("x")[0], other(s, fail))), with(choose(v("x")[0], other(s, whole("y"), fail))))
		wantValid(t, with(s, to("f0", s), to("main", s), to(" ", s), to("\xff", s), ret("\xff")))
	}
	for _, s := range []api.Step{do(api.DoUpdate, v("x", "x")...), fail, ret("x"), choose(v("x")[0], other(fail))} {
		p := with(to("y", s), fail)
		if s.Op != api.DoUpdate {
			p = with(to("y", s))
		}
		wantError(t, 0, api.ErrBound, p)
	}
}

// What a branch binds is not seen behind it, and not bound again in another one.
func TestBranches(t *testing.T) {
	x := v("x")[0]
	wantValid(t,
		with(choose(x, other(whole("y"), ret("y")), other(whole("z"), ret("z")), other(ret("x")))),
		with(choose(x, other(whole("y"), choose(x, other(ret("y")), other(whole("z"), node("w", con("C", 2), v("y", "z")...), ret("w")))), binds("v"))),
		of(fn("main", nil, fail), fn("f", []string{"p"}, whole("x"), choose(x, other(choose(x, other(node("c", con("C", 2), v("p", "x")...), ret("c"))))))),
		// Each function has its own.
		of(fn("main", nil, whole("x"), choose(x, other(whole("y"), ret("y")))), fn("f", []string{"y"}, whole("x"), ret("y")), fn("g", []string{"x"}, choose(x, other(whole("y"), ret("y"))))))
	wantError(t, 0, api.ErrBound,
		with(choose(x, other(whole("y"), ret("y")), other(ret("y")))),
		with(choose(x, other(whole("y"), ret("y")), other(whole("y"), ret("y")))),
		with(choose(x, other(whole("y"), choose(x, other(whole("z"), ret("y")), other(ret("z")))))),
		with(choose(x, other(choose(x, other(whole("z"), fail))), other(ret("z")))),
		with(choose(x, other(choose(x, other(whole("z"), fail))), other(whole("z"), fail))),
		with(choose(x, other(choose(x, other(choose(x, other(whole("z"), fail))))), other(fail), binds("z"))),
		with(choose(x, other(choose(x, other(fail))), other(whole("x"), fail))),
		// What stands behind it isn't, either.
		with(to("z", do(api.DoFetch, v("y")...)), whole("y"), fail))
	wantError(t, 1, api.ErrBound, of(fn("main", nil, whole("x"), ret("x")), fn("f", nil, ret("x"))), of(fn("main", []string{"p"}, ret("p")), fn("f", nil, ret("p"))))
}

// binds is a branch whose first step binds the name.
func binds(name string) api.Branch { return other(whole(name), fail) }

func TestErrManyOfBranches(t *testing.T) {
	x := v("x")[0]
	for _, n := range []int{1, 2, 59, 60} {
		wantValid(t, with(choose(x, slices.Repeat([]api.Branch{other(fail)}, n)...)))
	}
	for _, n := range []int{0, 61, 1000} {
		wantError(t, 0, api.ErrMany, with(choose(x, slices.Repeat([]api.Branch{other(fail)}, n)...)), with(choose(x, make([]api.Branch, n)...)), with(choose(x, other(choose(x, make([]api.Branch, n)...)))))
	}
	wantError(t, 0, api.ErrMany, with(choose(x, []api.Branch{}...)))
	wantError(t, 1, api.ErrMany, of(fn("main", nil, fail), fn("f", []string{"x"}, choose(x))))
}

// Where several hold, the one that is asked for first is told.
func TestWhatComesFirst(t *testing.T) {
	x := v("x")[0]
	branch := api.Branch{Take: api.TakeCon, Tag: con("c", 0)}
	for _, c := range []struct {
		want error
		l    []api.Step
	}{
		// Of one step.
		{api.ErrShape, []api.Step{as(to("", do(13)), 7), fail}}, {api.ErrShape, []api.Step{as(ret("z"), 2), fail}}, {api.ErrShape, []api.Step{as(call("none"), 9)}}, {api.ErrShape, []api.Step{{Op: api.DoFail, Vals: i(1), Alts: []api.Branch{{}}}}},
		{api.ErrArity, []api.Step{to("", do(api.DoFetch, v("z", "z")...)), fail}}, {api.ErrArity, []api.Step{to("", prim("none", v("z")...)), fail}}, {api.ErrArity, []api.Step{{Op: api.DoFail, N: -1, Vals: i(1)}}}, {api.ErrArity, []api.Step{{Op: api.DoField, N: -1}, fail}}, {api.ErrArity, []api.Step{{Op: api.DoCase}}},
		{api.ErrBound, []api.Step{node("", api.Tag{}), fail}}, {api.ErrBound, []api.Step{node("y", fun("none", 0), i(1)...), fail}}, {api.ErrBound, []api.Step{to("x", call("none")), fail}}, {api.ErrBound, []api.Step{call("f0", i(1)...), fail}}, {api.ErrBound, []api.Step{to("y", api.Step{Op: api.DoFail, N: -1})}}, {api.ErrBound, []api.Step{{Op: api.DoField, N: -1, Vals: v("x")}, fail}}, {api.ErrBound, []api.Step{choose(v("z")[0])}}, {api.ErrBound, []api.Step{to("y", choose(x))}},
		{api.ErrTag, []api.Step{node("y", fun("none", 61)), fail}}, {api.ErrTag, []api.Step{node("y", pap("none", 0)), fail}}, {api.ErrTag, []api.Step{node("y", con("c", 2)), fail}},
		{api.ErrNone, []api.Step{node("y", fun("none", 2)), fail}}, {api.ErrNone, []api.Step{call("none", x), fail}},
		{api.ErrMany, []api.Step{choose(x, slices.Repeat([]api.Branch{branch}, 61)...)}},
		// Of several steps, and branches, and functions.
		{api.ErrNone, []api.Step{call("none"), {}}}, {api.ErrTag, []api.Step{node("y", api.Tag{}), choose(x)}}, {api.ErrArity, []api.Step{call("f1"), to("y", fail)}}, {api.ErrShape, []api.Step{{Op: api.DoField, To: "y", Vals: v("x"), N: -1}, ret("z")}},
		{api.ErrTag, []api.Step{choose(x, branch, other())}}, {api.ErrTag, []api.Step{choose(x, other(fail), branch)}}, {api.ErrShape, []api.Step{choose(x, other(), branch)}}, {api.ErrBound, []api.Step{choose(x, other(ret("z")), branch)}}, {api.ErrNone, []api.Step{choose(x, other(choose(x, other(call("none"), fail))), branch, other())}},
	} {
		wrong := with(c.l...)
		wantError(t, 0, c.want, wrong, of(append(wrong.Funcs, fn("", nil))...), of(append(wrong.Funcs, wrong.Funcs...)...))
		f, m := wrong.Funcs[0], fn("main", nil, fail)
		f.Name = "f"
		wantError(t, 1, c.want, of(append([]api.Func{m, f}, wrong.Funcs[1:]...)...))
		// Its name, and its parameters, come ahead of its steps.
		f.Params = []string{"p", "p"}
		wantError(t, 1, api.ErrTwice, of(m, f))
		f.Name = ""
		wantError(t, 1, api.ErrName, of(m, f))
		f.Name, f.Params = "main", nil
		wantError(t, 1, api.ErrTwice, of(m, f))
	}
}
