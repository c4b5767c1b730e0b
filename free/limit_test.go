package free_test

import (
	"reflect"
	"slices"
	"strconv"
	"strings"
	"testing"

	"gristmill/api"
	"gristmill/exprs"
	"gristmill/free"
	"gristmill/syn"
)

// sixty is a text sixty times, with the names from p0 to p59 in place of ?.
func sixty(each string) string {
	var l []string
	for i := range 60 {
		l = append(l, strings.ReplaceAll(each, "?", "p"+strconv.Itoa(i)))
	}
	return strings.Join(l, " ")
}

func TestWide(t *testing.T) {
	names := sixty("?")
	for _, x := range []struct{ s, names, bound string }{
		{"(f " + names + ")", "f " + names, ""}, {"(fn (" + names + ") (f " + names + "))", "f", names}, {"(let (" + sixty("(? (f p0 p59 ?))") + ") (g " + names + "))", "f g", names}, {"(let (" + sixty("(x ?)") + ") (p59 x))", names, "x"},
		{"(case p0 ((C " + names + ") (f " + names + ")) (_ p59))", "p0 f p59", names}, {"(case p7 " + sixty("((C ?) (p30 ? p8))") + ")", "p7 p30 p8", names}, {"(case 1 " + sixty("(1 (f ?))") + ")", "f " + names, ""},
	} {
		wantNames(t, x.s, x.names, x.bound)
		hold(t, read(t, x.s), read(t, "(g "+names+")"), "p0", "p31", "p59", "f", "x")
	}
}

// nested is e within so many of what is ahead of ? and behind it.
func nested(n int, within, e string) string {
	ahead, behind, _ := strings.Cut(within, "?")
	return strings.Repeat(ahead, n) + e + strings.Repeat(behind, n)
}

func TestDeep(t *testing.T) {
	for _, x := range []struct {
		most                     int
		within, names, bound, to string
	}{
		{199, "(? 1)", "x", "", "(? 1)"}, {199, "(f ? x)", "f x", "", "(f ? z)"}, {199, "(+ x ?)", "x", "", "(+ z ?)"}, {198, "(fn (y) ?)", "x", "y", "(fn (y) ?)"}, {198, "(fn (x) ?)", "", "x", ""},
		{197, "(let ((y x)) ?)", "x", "y", "(let ((y z)) ?)"}, {66, "(let ((y ?)) y)", "x", "y", "(let ((y ?)) y)"}, {197, "(let ((x y)) ?)", "y", "x", ""}, {66, "(let ((x ?)) y)", "y", "x", ""},
		{198, "(case ? (_ x))", "x", "", "(case ? (_ z))"}, {99, "(case x (_ ?))", "x", "", "(case z (_ ?))"}, {99, "(case 1 ((C y) ?))", "x", "y", "(case 1 ((C y) ?))"}, {99, "(case 1 ((C x) ?) (_ y))", "y", "x", ""},
	} {
		for _, n := range []int{1, 2, x.most - 2} {
			s := nested(n, x.within, "x")
			wantNames(t, s, x.names, x.bound)
			if x.to != "" {
				wantRename(t, s, "x", "z", nested(n, x.to, "z"))
			} else {
				wantRename(t, s, "x", "z", s)
			}
		}
	}
	// Each of another name, and back: where it ends, what is outside is bound again.
	s, names := "(f x)", ""
	for i := range 60 {
		s, names = "((fn (p"+strconv.Itoa(i)+") ("+s+" p0 p"+strconv.Itoa(i)+")) p0)", "p"+strconv.Itoa(i)+" "+names
	}
	wantNames(t, s, "f x p0", strings.TrimSpace(names))
	hold(t, read(t, s), read(t, "(p0 p1)"), "p0", "p1", "p59", "x")
}

// full is f applied to so many of what is f applied to sixty of what is f applied to sixty e.
func full(n int, e api.Expr) api.Expr {
	of := func(n int, e api.Expr) api.Expr {
		return app(slices.Concat([]api.Expr{v("f")}, slices.Repeat([]api.Expr{e}, n))...)
	}
	return of(n, of(60, of(60, e)))
}

func TestLarge(t *testing.T) {
	e := full(5, v("x"))
	if got := syn.Size(program(e)); got < 18000 || syn.Valid(program(e)) != nil {
		t.Fatal(got, syn.Valid(program(e)))
	}
	s := text(e)
	wantNames(t, s, "f x", "")
	wantNames(t, strings.ReplaceAll(s, "x", "1"), "f", "")
	wantRename(t, s, "x", "y", strings.ReplaceAll(s, "x", "y"))
	wantRename(t, s, "f", "y", strings.ReplaceAll(s, "f", "y"))
	for _, by := range []string{"1", "(g 1)", "(fn (x) (x y))", "(f" + strings.Repeat(" x", 60) + ")", "(g" + strings.Repeat(" (fn (x y) (x y))", 20) + ")"} {
		b := read(t, by)
		if got := free.Subst(e, "x", b); !same(got, full(5, b)) {
			t.Errorf("by %q: %d expressions", by, syn.Size(program(got)))
		}
	}
	if got := free.Subst(v("x"), "x", e); !same(got, e) {
		t.Error(syn.Size(program(got)))
	}
}

// An expression has parts that stand at several places: in the answer each is of its own.
func TestSharedParts(t *testing.T) {
	e, want := v("x"), v("z")
	for range 12 {
		e, want = app(e, e), app(want, want)
	}
	got := free.Rename(e, "x", "z")
	if !same(got, want) {
		t.Error("not what it has to be")
	}
	wantApart(t, spansIn(got))
	if names := free.Names(e); !slices.Equal(names, []string{"x"}) {
		t.Error(names)
	}
}

// forms is ways to make an expression of another one.
func forms() []func(api.Expr) api.Expr {
	return []func(api.Expr) api.Expr{
		func(e api.Expr) api.Expr { return app(e, v("y")) },
		func(e api.Expr) api.Expr { return app(v("y"), e) },
		func(e api.Expr) api.Expr { return fn(e, "y") },
		func(e api.Expr) api.Expr { return let([]string{"y"}, e, v("y")) },
		func(e api.Expr) api.Expr { return cases(e, ofAny(v("y"))) },
		func(e api.Expr) api.Expr { return cases(v("y"), ofInt(v("y")), ofCon(e, "y", "w")) },
	}
}

// As deep as the document's limits have it, far deeper than syn.Valid takes it.
func TestVeryDeep(t *testing.T) {
	for i, form := range forms() {
		e, want := v("x"), v("z")
		for range 1<<16 - 1 {
			e, want = form(e), form(want)
		}
		if got := free.Names(e); !slices.Contains(got, "x") {
			t.Error(i, got)
		}
		if got := free.Bound(e); len(got) > 0 != (free.Bound(form(v("x"))) != nil) {
			t.Error(i, got)
		}
		if got := free.Rename(e, "x", "z"); !same(got, want) {
			t.Error(i, "not what it has to be")
		}
		if got := free.Subst(v("w"), "w", e); !same(got, e) {
			t.Error(i, "not what it has to be")
		}
		if free.Closed(e) {
			t.Error(i)
		}
	}
}

// endless is expressions that have themselves as a part, or parts at so many places that there is no end to it.
func endless() (l []api.Expr) {
	for _, form := range forms() {
		l = append(l, exprs.Endless(form))
	}
	many := v("x")
	for range 100 {
		many = app(many, many)
	}
	names := slices.Repeat([]string{"x", "y"}, 1<<16)
	bound, taken := fn(v("x"), names...), cases(v("x"), ofCon(v("x"), names...))
	for range 18 {
		bound, taken = app(bound, bound), app(taken, taken)
	}
	long := v(strings.Repeat("x", 1<<20))
	for range 60 {
		long = cases(long, ofAny(long))
	}
	deep := v("x")
	for range 1 << 20 {
		deep = fn(deep, "y")
	}
	return append(l, many, bound, taken, long, deep)
}

func TestEndless(t *testing.T) {
	for i, e := range endless() {
		if names, bound := free.Names(e), free.Bound(e); names != nil || bound != nil || !free.Closed(e) {
			t.Error(i, len(names), len(bound))
		}
		for _, name := range []string{"x", "y", "z"} {
			if got := free.Rename(e, name, "w"); !reflect.DeepEqual(got, api.Expr{}) {
				t.Error(i, "Rename")
			}
		}
		if got := free.Subst(e, "x", v("z")); !reflect.DeepEqual(got, api.Expr{}) {
			t.Error(i, "Subst")
		}
		if got := free.Subst(read(t, "(f x)"), "x", e); !reflect.DeepEqual(got, api.Expr{}) {
			t.Error(i, "Subst by it")
		}
		// Where there is nothing to be replaced it is not looked at.
		for _, s := range []string{"y", "(fn (x) x)", "(C 1)"} {
			if got := free.Subst(read(t, s), "x", e); !same(got, read(t, s)) {
				t.Error(i, s)
			}
		}
	}
}

// An answer that would be larger than the document's limits is none.
func TestAnswersTooLarge(t *testing.T) {
	e := full(5, v("x"))
	if got := free.Subst(e, "x", e); !reflect.DeepEqual(got, api.Expr{}) {
		t.Error(len(got.L))
	}
	if got := free.Rename(e, "x", strings.Repeat("z", 1<<20)); !reflect.DeepEqual(got, api.Expr{}) {
		t.Error(len(got.L))
	}
	if got := free.Rename(e, "y", strings.Repeat("z", 1<<20)); !same(got, e) {
		t.Error(len(got.L))
	}
}

// What syn.Valid does not take: each call ends, and changes nothing.
func TestWrongExpressions(t *testing.T) {
	lists := []api.Expr{{}, {Names: []string{"x"}}, {L: []api.Expr{v("x")}}, {Alts: []api.Alt{{}, ofCon(v("x"), "y")}}, {Names: []string{"x", "", "X"}, L: []api.Expr{{}, v("x"), v("")}, Alts: []api.Alt{{Take: 7, N: 1, Names: []string{"x"}, E: v("x")}}}}
	for op := -1; op < 13; op++ {
		for i, e := range lists {
			for _, name := range []string{"", "x", "C", "+"} {
				e.Op, e.Name, e.N = op, name, 5
				kept := syn.Clone(program(e))
				free.Names(e)
				free.Bound(e)
				free.Closed(e)
				free.Rename(e, "x", "")
				free.Rename(e, "", "x")
				free.Subst(e, "x", e)
				free.Subst(app(v("x"), fn(v("x"), "y")), "x", e)
				if got := free.Rename(e, "z", "w"); !same(got, e) || !syn.Same(kept, program(e)) {
					t.Error(op, i, name, got)
				}
			}
		}
	}
}
