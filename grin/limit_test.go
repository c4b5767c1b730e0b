package grin_test

import (
	"slices"
	"testing"

	"gristmill/api"
	"gristmill/grin"
)

// wholes is so many steps that make a node: each is two, it and its value.
func wholes(n int) (l []api.Step) {
	for _, name := range names(n) {
		l = append(l, whole(name))
	}
	return l
}

// many is so many functions that fail, the last of them main.
func many(n int) (l []api.Func) {
	for _, name := range names(n - 1) {
		l = append(l, fn(name, nil, fail))
	}
	return append(l, fn("main", nil, fail))
}

func TestErrManyOfFunctions(t *testing.T) {
	l := many(api.MaxCode)
	wantValid(t, of(l...))
	// One more, in whichever place, or a step more.
	wantError(t, alone, api.ErrMany, of(append(l, fn("f", nil, fail))...), of(append(l, api.Func{})...), of(append([]api.Func{{}}, l...)...), of(make([]api.Func, api.MaxCode+1)...), of(make([]api.Func, 5*api.MaxCode)...))
	// As many as there may be, none of them right.
	wantError(t, 0, api.ErrName, of(make([]api.Func, api.MaxCode)...))
	l[0].Steps = []api.Step{fail, fail}
	wantError(t, alone, api.ErrMany, of(l...))
	l[0].Steps = nil
	wantError(t, 0, api.ErrShape, of(l...))
	l[0].Steps = []api.Step{{Op: api.DoFail, Vals: i(1)}}
	wantError(t, alone, api.ErrMany, of(l...))
	// Parameters are not counted.
	l[0] = fn("n0", names(api.MaxCode+9), fail)
	wantValid(t, of(l...))
}

func TestErrManyInAll(t *testing.T) {
	half := api.MaxCode / 2
	wantValid(t, main(append(wholes(half-1), ret("n0"))...), main(append(wholes(half-1), fail)...))
	wantError(t, alone, api.ErrMany, main(append(wholes(half), fail)...), main(append(wholes(half), ret("n0"))...), main(wholes(half+1)...), main(make([]api.Step, api.MaxCode+1)...), main(append(wholes(half-1), api.Step{Vals: v("x", "y")})...))
	// As many as there may be, none of them right.
	wantError(t, 0, api.ErrShape, main(make([]api.Step, api.MaxCode)...))
	// Those of all functions.
	one := fn("f", nil, fail)
	wantValid(t, of(one, fn("main", nil, append(wholes(half-1), fail)...)))
	wantError(t, alone, api.ErrMany, of(one, fn("main", nil, append(wholes(half-1), ret("n0"))...)), of(fn("main", nil, append(wholes(half-1), fail)...), one, one))
	// All values of a step.
	wide := func(n int) grin.Prog {
		return of(fn("main", nil, whole("x"), as(call("f"), n), fail), fn("f", names(n), fail))
	}
	wantValid(t, wide(api.MaxCode-5))
	wantError(t, alone, api.ErrMany, wide(api.MaxCode-4))
	// Branches, and what is in them.
	ahead := wholes(half - 61) // a DoCase is one, and its value; and here sixty branches of a step
	end := func(n int, last ...api.Step) api.Step {
		return choose(i(1)[0], append(slices.Repeat([]api.Branch{other(fail)}, n), other(last...))...)
	}
	wantValid(t, main(append(ahead, end(59, fail))...))
	wantError(t, alone, api.ErrMany, main(append(ahead, end(59, ret("n0")))...), main(append(ahead, end(59, fail, fail))...), main(append(ahead, end(60))...))
	wantError(t, 0, api.ErrShape, main(append(ahead, end(59, api.Step{}))...))
	// Those that stand where they may not.
	s := fail
	s.Alts = []api.Branch{other(append(wholes(half-1), fail)...)}
	wantError(t, alone, api.ErrMany, main(s))
	s.Alts = []api.Branch{other(wholes(half - 1)...)}
	wantError(t, 0, api.ErrShape, main(s))
}

// deep is a DoCase in so many others.
func deep(n int) grin.Prog {
	s := fail
	for range n {
		s = choose(i(1)[0], other(s))
	}
	return main(s)
}

func TestDeep(t *testing.T) {
	most := api.MaxCode / 3 // each is three: it, its value, its branch
	for _, n := range []int{0, 1, 1000, most - 1, most} {
		p := deep(n)
		wantValid(t, p)
		q := grin.Clone(p)
		if !grin.Same(p, q) || !grin.Plain(p) || grin.Sites(p.Funcs[0]) != 0 || len(grin.Vars(p.Funcs[0])) > 0 || grin.Same(p, deep(n+1)) {
			t.Error(n)
		}
	}
	wantError(t, alone, api.ErrMany, deep(most+1))
	p := main(whole("x"), choose(i(1)[0], other(whole("y"), to("z", do(api.DoEval, v("y")...)), ret("z"))))
	for range most - 9 {
		p = main(choose(i(1)[0], other(p.Funcs[0].Steps...)))
	}
	wantValid(t, p)
	if got := grin.Vars(p.Funcs[0]); !slices.Equal(got, []string{"x", "y", "z"}) || grin.Sites(p.Funcs[0]) != 2 || grin.Plain(p) {
		t.Error(got)
	}
}

// More than Valid takes, and yet within the limits.
func TestLarge(t *testing.T) {
	f := fn("f", nil)
	for _, name := range names(100) {
		f.Steps = append(f.Steps, whole(name))
	}
	for range 3 {
		f.Steps = []api.Step{whole("x"), choose(i(1)[0], slices.Repeat([]api.Branch{other(f.Steps...)}, 20)...)}
	}
	p := of(f)
	wantError(t, alone, api.ErrMany, p)
	if got := grin.Sites(f); got != 8000*100+421 {
		t.Error(got)
	}
	if got := grin.Vars(f); !slices.Equal(got, append([]string{"x"}, names(100)...)) {
		t.Error(got)
	}
	q := grin.Clone(p)
	if !grin.Same(p, q) || !grin.Plain(p) {
		t.Error("not the Same, or not Plain")
	}
	at := q.Funcs[0].Steps
	for range 3 {
		at = at[1].Alts[19].Steps
	}
	at[99].Op = api.DoEval
	if grin.Same(p, q) || grin.Same(q, p) || !grin.Plain(p) || grin.Plain(q) || grin.Sites(q.Funcs[0]) != 8000*100+420 {
		t.Error("it is the Same, or Plain")
	}
}

// endless is functions that have themselves in a branch, or branches at so many places that there is no end to it.
func endless() (l []api.Func) {
	for _, n := range []int{1, 2, 60, 100} {
		steps := make([]api.Step, 1)
		steps[0] = choose(i(1)[0], slices.Repeat([]api.Branch{other(steps...)}, n)...)
		l = append(l, fn("main", names(3), steps...))
		steps = []api.Step{whole("x"), {}}
		steps[1] = choose(v("x")[0], append([]api.Branch{other(whole("y"), fail), other(steps...)}, slices.Repeat([]api.Branch{other(fail)}, n)...)...)
		l = append(l, fn("main", nil, steps...))
		steps = []api.Step{do(api.DoEval, i(1)...), {}}
		for range 100 {
			steps = []api.Step{do(api.DoEval, i(1)...), choose(v("x")[0], slices.Repeat([]api.Branch{other(steps...)}, n+1)...)}
		}
		l = append(l, fn("main", nil, steps...))
		alts := make([]api.Branch, n)
		for k := range alts {
			alts[k] = api.Branch{Steps: []api.Step{{Alts: alts}}}
		}
		l = append(l, fn("main", nil, api.Step{Alts: alts}))
	}
	return l
}

func TestEndless(t *testing.T) {
	for k, f := range endless() {
		for _, p := range []grin.Prog{of(f), of(fn("f", nil, fail), f, fn("g", nil, fail))} {
			wantError(t, alone, api.ErrMany, p)
			if grin.Same(p, p) || grin.Plain(p) || len(grin.Clone(p).Funcs) > 0 {
				t.Errorf("%d: it was looked at", k)
			}
			if j, is := grin.Find(p, "main"); !is || p.Funcs[j].Name != "main" {
				t.Errorf("%d: Find: %d, %v", k, j, is)
			}
		}
		if grin.Sites(f) != 0 || len(grin.Vars(f)) > 0 {
			t.Errorf("%d: it was looked at", k)
		}
	}
}
