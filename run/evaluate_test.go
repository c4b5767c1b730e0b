package run_test

import (
	"testing"

	"gristmill/api"
	"gristmill/grin"
)

// held is main and functions that take a place and hold what is there while it is evaluated.
func held(f api.Func, l ...api.Step) grin.Prog {
	return of(append(others(), f, fn("main", nil, l...))...)
}

func TestEvaluate(t *testing.T) {
	// What does not wait is as it is, at the same place.
	for _, s := range []api.Step{whole("x", 1), node("x", con("N", 0)), node("x", pap("k", 2)), float("x", 1)} {
		wantSeen(t, with(s, eval("y", "x"), whole("z", 3), update("x", "z"), ret("y")), "3", 5)
	}
	// A call: once, and it is at the same place.
	wantSeen(t, with(node("x", fun("seven", 0)), eval("y", "x"), eval("z", "x"), eval("w", "y"), node("u", con("Q", 4), "x", "y", "z", "w"), ret("u")), "(Q 7 7 7 7)", 8)
	wantSeen(t, with(node("x", fun("seven", 0)), eval("y", "x"), whole("z", 3), update("x", "z"), ret("y")), "3", 7)
	// With its fields.
	wantSeen(t, with(whole("a", 1), whole("b", 2), node("x", fun("pair", 2), "b", "a"), ret("x")), "(P 2 1)", 6)
	// What it returns is evaluated, too, and at its own place.
	wantSeen(t, with(node("x", fun("seven", 0)), node("y", fun("id", 1), "x"), node("z", fun("id", 1), "y"), eval("w", "z"), node("u", con("Q", 3), "x", "y", "z"), ret("u")), "(Q 7 7 7)", 10)
	wantSeen(t, with(node("x", fun("seven", 0)), node("y", fun("id", 1), "x"), eval("w", "y"), whole("z", 3), update("x", "z"), node("u", con("P", 2), "x", "y"), ret("u")), "(P 3 7)", 10)
	// What is not as it has to be.
	bare := prim("n", "+", i(1), i(1))
	wantBad(t, with(bare, eval("x", "n"), ret("x")), 2)
	wantBad(t, with(node("x", fun("three", 0)), eval("y", "x"), ret("y")), 4)
	wantBad(t, with(node("x", fun("three", 0)), ret("x")), 4)
	wantSeen(t, with(node("x", fun("bad", 0)), eval("y", "x"), call("z", "loop"), ret("y")), "!9", 3)
}

func TestEvaluateAnApplication(t *testing.T) {
	one := whole("a", 1)
	// What is applied is evaluated first.
	wantSeen(t, with(one, node("f", fun("const", 1), "a"), node("x", app(1), "f", "a"), eval("y", "x"), node("z", con("P", 2), "x", "y"), ret("z")), "(P 1 1)", 9)
	wantSeen(t, with(one, node("b", fun("bad", 0)), node("f", pap("k", 2)), node("x", app(2), "f", "a", "b"), ret("x")), "1", 6)
	wantSeen(t, with(one, node("b", fun("bad", 0)), node("x", app(1), "b", "a"), ret("x")), "!9", 5)
	// Once.
	wantSeen(t, with(one, node("f", pap("k", 2)), node("x", app(2), "f", "a", "a"), eval("y", "x"), eval("z", "x"), ret("z")), "1", 7)
	wantBad(t, with(one, node("x", app(1), "a", "a"), eval("y", "x"), ret("a")), 3)
	wantBad(t, with(node("f", fun("three", 0)), node("x", app(1), "f", "f"), eval("y", "x"), ret("x")), 5)
	wantBad(t, with(node("f", pap("id", 1)), one, node("x", app(2), "f", "a", "a"), eval("y", "x"), ret("x")), 5)
}

func TestUnderWay(t *testing.T) {
	// One that needs itself.
	again := fn("f", []string{"p"}, eval("a", "p"), ret("a"))
	knot := []api.Step{whole("x", 1), node("y", fun("f", 1), "x"), update("x", "y")}
	wantOut(t, held(again, append(knot, eval("z", "x"), ret("z"))...), api.OutOfFuel, 100, 100)
	wantOut(t, held(again, append(knot, ret("x"))...), api.OutOfFuel, api.MaxFuel, api.MaxFuel)
	// One that returns itself, and one that is applied to, or a function of, itself.
	wantOut(t, held(fn("f", []string{"p"}, ret("p")), append(knot, ret("x"))...), api.OutOfFuel, 100, 100)
	wantOut(t, with(whole("x", 1), node("y", app(1), "x", "x"), update("x", "y"), ret("x")), api.OutOfFuel, 100, 100)
	// The other node is another one: it is evaluated, and needs the first.
	wantSeen(t, held(fn("f", []string{"p"}, node("a", con("S", 1), "p"), ret("a")), append(knot, ret("y"))...), "(S (S (S _)))", 8)
	look := func(l ...api.Step) grin.Prog {
		return held(fn("f", []string{"p"}, l...), append(knot, eval("e", "x"), ret("e"))...)
	}
	// It has its tag, and its fields; it waits.
	wantSeen(t, look(choose(v("p")[0], takes(fun("f", 1), fail(3)), other(fail(4)))), "!3", 6)
	wantSeen(t, look(field("a", "p", 0), choose(v("a")[0], takes(fun("f", 1), fail(3)), other(fail(4)))), "!3", 7)
	wantBad(t, look(field("a", "p", 1), ret("a")), 5)
	wantBad(t, look(do("a", api.DoFetch, "p"), ret("a")), 5)
	wantBad(t, look(do("a", api.DoOpen, "p"), ret("a")), 5)
	wantBad(t, look(do("a", api.DoApply, "p", "p"), ret("a")), 5)
	// It may be named.
	wantSeen(t, look(node("a", con("S", 1), "p"), ret("a")), "(S (S (S _)))", 7)
	wantSeen(t, look(node("a", con("S", 1), "p"), node("b", pap("pair", 1), "a"), do("c", api.DoApply, "b", "a"), ret("c")), "(P (S (P _ _)) (S (P _ _)))", 11)
}

func TestUnderWayAndUpdate(t *testing.T) {
	knot := []api.Step{whole("x", 1), node("y", fun("f", 1), "x"), update("x", "y")}
	look := func(l ...api.Step) grin.Prog {
		return held(fn("f", []string{"p"}, l...), append(knot, eval("e", "x"), ret("e"))...)
	}
	// A copy waits, and is not under way: it is evaluated, and finds the first one under way.
	wantOut(t, look(whole("a", 1), update("a", "p"), eval("b", "a"), eval("c", "b"), ret("b")), api.OutOfFuel, 100000, 100000)
	g := fn("g", []string{"p", "q"}, eval("a", "q"), choose(v("a")[0], takes(wholeTag, whole("b", 8), update("q", "b"), node("c", fun("g", 2), "q", "p"), update("c", "p"), eval("d", "c"), ret("d")), other(ret("a"))))
	p := of(g, fn("main", nil, whole("x", 1), node("q", con("N", 0)), whole("q1", 1), node("y", fun("g", 2), "x", "q1"), update("x", "y"), eval("e", "x"), ret("e")))
	wantOut(t, p, api.OutOfFuel, 5000, 5000)
	// One that is updated is under way no more, and becomes in the end what was returned.
	wantSeen(t, look(whole("a", 5), update("p", "a"), eval("b", "p"), node("c", con("P", 2), "b", "a"), update("b", "a"), ret("b")), "5", 11)
	wantSeen(t, look(whole("a", 5), update("p", "a"), eval("b", "p"), node("c", con("P", 2), "p", "a"), ret("c")), "(P (P (P _ 5) 5) 5)", 10)
	wantSeen(t, look(node("a", fun("seven", 0)), update("p", "a"), eval("b", "p"), node("c", con("S", 1), "b"), ret("c")), "(S (S (S _)))", 12)
	wantSeen(t, look(whole("a", 5), update("p", "a"), ret("p")), "5", 8)
	wantSeen(t, look(node("a", fun("seven", 0)), update("p", "a"), ret("p")), "7", 10)
	// Updated with itself it is under way no more: it is evaluated again, without an end.
	wantOut(t, look(update("p", "p"), eval("a", "p"), ret("a")), api.OutOfFuel, 1000, 1000)
	n := fn("n", []string{"p", "c"}, choose(v("c")[0], takes(con("N", 0), whole("a", 6), update("c", "a"), update("p", "p"), eval("b", "p"), node("d", con("S", 1), "b"), ret("d")), other(ret("c"))))
	wantSeen(t, of(n, fn("main", nil, whole("x", 1), node("c", con("N", 0)), node("y", fun("n", 2), "x", "c"), update("x", "y"), eval("e", "x"), ret("e"))), "(S (S (S _)))", 15)
	// One that would end, were it evaluated again.
	n = fn("n", []string{"p", "c"}, choose(v("c")[0], takes(con("N", 0), whole("a", 6), update("c", "a"), eval("b", "p"), ret("b")), other(ret("c"))))
	wantOut(t, of(n, fn("main", nil, whole("x", 1), node("c", con("N", 0)), node("y", fun("n", 2), "x", "c"), update("x", "y"), eval("e", "x"), ret("e"))), api.OutOfFuel, 1000, 1000)
	wantOut(t, of(n, fn("main", nil, whole("x", 1), node("c", con("N", 0)), node("f", pap("n", 2)), node("y", app(2), "f", "x", "c"), update("x", "y"), ret("x"))), api.OutOfFuel, 1000, 1000)
	// An application that is under way is applied with the fields that it had.
	f := fn("f", []string{"x"}, whole("a", 4), update("x", "a"), node("b", pap("k", 2)), ret("b"))
	wantSeen(t, held(f, whole("x", 1), whole("u", 2), node("g", fun("f", 1), "x"), node("y", app(2), "g", "u", "x"), update("x", "y"), ret("x")), "2", 11)
}

func TestApply(t *testing.T) {
	one, two := whole("a", 1), whole("b", 2)
	apply := func(l ...string) api.Step { return do("z", api.DoApply, l...) }
	// Fewer than it lacks, as many, more.
	wantSeen(t, with(one, two, node("f", pap("pair", 2)), apply("f", "a"), ret("z")), "<fn>", 5)
	wantSeen(t, with(one, two, node("f", pap("pair", 2)), apply("f", "a"), choose(v("z")[0], takes(pap("pair", 1), field("w", "z", 0), ret("w")))), "1", 7)
	wantSeen(t, with(one, two, node("f", pap("pair", 2)), apply("f", "a"), do("w", api.DoApply, "z", "b"), ret("w")), "(P 1 2)", 8)
	wantSeen(t, with(one, two, node("f", pap("pair", 1), "b"), apply("f", "a"), ret("z")), "(P 2 1)", 7)
	wantSeen(t, with(one, two, node("f", pap("pair", 2)), apply("f", "a", "b"), ret("z")), "(P 1 2)", 7)
	wantSeen(t, with(one, two, node("f", pap("const", 1)), apply("f", "a", "b"), ret("z")), "1", 8)
	wantSeen(t, with(one, two, node("f", pap("k", 2)), node("g", pap("const", 1)), apply("f", "g", "a", "b", "a"), ret("z")), "2", 10)
	// The function that is applied stays as it was.
	wantSeen(t, with(one, two, node("f", pap("pair", 2)), apply("f", "a"), do("w", api.DoApply, "z", "b"), do("u", api.DoApply, "z", "a"), node("x", con("Q", 3), "w", "u", "f"), ret("x")), "(Q (P 1 2) (P 1 1) <fn>)", 12)
	// What is returned is evaluated, what is taken is not.
	wantSeen(t, with(one, node("s", fun("seven", 0)), node("f", pap("id", 1)), apply("f", "s"), whole("w", 3), update("s", "w"), node("u", con("P", 2), "z", "s"), ret("u")), "(P 3 3)", 11)
	wantSeen(t, with(one, node("s", fun("bad", 0)), node("f", pap("k", 2)), apply("f", "a", "s"), ret("z")), "1", 6)
	wantSeen(t, with(one, node("s", fun("bad", 0)), node("f", pap("id", 1)), apply("f", "s"), ret("a")), "!9", 6)
	// What is not as it has to be.
	bare := prim("n", "+", i(1), i(1))
	for _, s := range []api.Step{whole("f", 1), node("f", con("N", 0)), node("f", fun("seven", 0)), node("f", fun("const", 1), "a"), node("f", app(1), "a", "a")} {
		wantBad(t, with(one, s, apply("f", "a"), ret("a")), 3)
	}
	wantBad(t, with(one, bare, node("f", pap("k", 2)), apply("f", "n"), ret("a")), 4)
	wantBad(t, with(one, bare, node("f", pap("k", 2)), apply("f", "a", "n"), ret("a")), 4)
	wantBad(t, with(one, bare, apply("n", "a"), ret("a")), 3)
	wantBad(t, with(one, node("f", pap("id", 1)), apply("f", "a", "a"), ret("a")), 4)
	three := fn("g", []string{"a"}, prim("n", "+", i(1), i(2)), ret("n"))
	wantBad(t, held(three, one, node("f", pap("g", 1)), apply("f", "a"), ret("a")), 5)
	wantBad(t, held(three, one, node("f", pap("g", 1)), apply("f", "a", "a"), ret("a")), 5)
}
