package deps_test

import (
	"fmt"
	"math"
	"testing"

	"gristmill/api"
	"gristmill/deps"
	"gristmill/scope"
	"gristmill/syn"
)

// read is the program of the text; scope.Check has to take it.
func read(t *testing.T, s string) api.Program {
	t.Helper()
	p, err := syn.Parse(s)
	if err == nil {
		err = scope.Check(p)
	}
	if err != nil {
		t.Fatalf("%.300q: %v", s, err)
	}
	return p
}

// ofAll is what call answers of each definition.
func ofAll(p api.Program, call func(api.Program, int) []int) (l [][]int) {
	for i := range p.Defs {
		l = append(l, call(p, i))
	}
	return l
}

// want holds what the calls answer of the program against how it is printed; uses and needed of each definition.
func want(t *testing.T, s, uses, needed, groups string) {
	t.Helper()
	p := read(t, s)
	if got := fmt.Sprint(ofAll(p, deps.Uses)); got != uses {
		t.Errorf("Uses of %.300q: %s; want %s", s, got, uses)
	}
	if got := fmt.Sprint(ofAll(p, deps.Needed)); got != needed {
		t.Errorf("Needed of %.300q: %s; want %s", s, got, needed)
	}
	if got := fmt.Sprint(deps.Groups(p)); got != groups {
		t.Errorf("Groups of %.300q: %s; want %s", s, got, groups)
	}
}

func TestOneDefinition(t *testing.T) {
	want(t, "(def main 1)", "[[]]", "[[0]]", "[[0]]")
	want(t, "(def main (+ 1 2))", "[[]]", "[[0]]", "[[0]]")
	want(t, "(def main main)", "[[0]]", "[[0]]", "[[0]]")
	want(t, "(data T A B) (data U C) (def main (fn (x) (x main A)))", "[[0]]", "[[0]]", "[[0]]")
}

func TestSeveralDefinitions(t *testing.T) {
	// Nothing uses another one: they stand as they are.
	want(t, "(def main 1) (def f x x) (def g 2)", "[[] [] []]", "[[0] [1] [2]]", "[[0] [1] [2]]")
	// A line, both ways.
	want(t, "(def main f) (def f g) (def g 1)", "[[1] [2] []]", "[[0 1 2] [1 2] [2]]", "[[2] [1] [0]]")
	want(t, "(def g 1) (def f g) (def main f)", "[[] [0] [1]]", "[[0] [0 1] [0 1 2]]", "[[0] [1] [2]]")
	// A ring; one that uses itself.
	want(t, "(def main f) (def f g) (def g main)", "[[1] [2] [0]]", "[[0 1 2] [0 1 2] [0 1 2]]", "[[0 1 2]]")
	want(t, "(def main f) (def f (f g)) (def g g)", "[[1] [1 2] [2]]", "[[0 1 2] [1 2] [2]]", "[[2] [1] [0]]")
	// Two ways to one.
	want(t, "(def main (f g)) (def f h) (def g h) (def h 1)", "[[1 2] [3] [3] []]", "[[0 1 2 3] [1 3] [2 3] [3]]", "[[3] [1] [2] [0]]")
	// Two rings with one thing between, and a ring that uses it.
	want(t, "(def a b) (def b (a c)) (def c d) (def d e) (def e (d e)) (def main c)", "[[1] [0 2] [3] [4] [3 4] [2]]", "[[0 1 2 3 4] [0 1 2 3 4] [2 3 4] [3 4] [3 4] [2 3 4 5]]", "[[3 4] [2] [0 1] [5]]")
	// A ring within a ring.
	want(t, "(def main a) (def a (b main)) (def b (a c)) (def c 1)", "[[1] [0 2] [1 3] []]", "[[0 1 2 3] [0 1 2 3] [0 1 2 3] [3]]", "[[3] [0 1 2]]")
}

// Of those that could come next it is the group with the least definition, whatever it became possible by.
func TestOrderOfGroups(t *testing.T) {
	for _, x := range []struct{ s, groups string }{
		{"(def a c) (def b 1) (def c 2) (def main 3)", "[[1] [2] [0] [3]]"},
		{"(def a d) (def b d) (def main 1) (def d 2)", "[[2] [3] [0] [1]]"},
		{"(def a main) (def b 1) (def c b) (def main 2)", "[[1] [2] [3] [0]]"},
		{"(def a e) (def b a) (def main b) (def d 1) (def e 2) (def f 3)", "[[3] [4] [0] [1] [2] [5]]"},
		// Rings come by the least in them, though others in them are greater.
		{"(def a e) (def b 1) (def main 2) (def d 3) (def e a)", "[[0 4] [1] [2] [3]]"},
		{"(def a main) (def b e) (def c 1) (def main 2) (def e b)", "[[1 4] [2] [3] [0]]"},
		{"(def a (b d)) (def b a) (def main e) (def d 1) (def e main)", "[[2 4] [3] [0 1]]"},
		{"(def a d) (def b c) (def c (b e)) (def d a) (def e 1) (def main 2)", "[[0 3] [4] [1 2] [5]]"},
		// What waits for the last one.
		{"(def main (a b c)) (def a c) (def b c) (def c 1)", "[[3] [1] [2] [0]]"},
		{"(def a (b b)) (def b (c c)) (def c (main main)) (def main 1)", "[[3] [2] [1] [0]]"},
	} {
		if got := fmt.Sprint(deps.Groups(read(t, x.s))); got != x.groups {
			t.Errorf("%q: %s; want %s", x.s, got, x.groups)
		}
	}
}

// ofBodies is a program in which f has the body.
func ofBodies(params, body string) string {
	return "(data T A (B T) (C T T)) (def f " + params + body + ") (def g 1) (def h 2) (def main 3)"
}

func TestUsesOfBodies(t *testing.T) {
	for _, x := range []struct{ uses, params, body string }{
		{"[]", "", "1"}, {"[]", "", "1p0"}, {"[]", "", "A"}, {"[]", "", "(fail 0)"}, {"[]", "a ", "a"},
		{"[0]", "", "f"}, {"[1]", "", "g"}, {"[3]", "", "main"},
		{"[1 2]", "", "(g h)"}, {"[1 2]", "", "(h g)"}, {"[1]", "", "(g g g)"}, {"[0 1 2 3]", "", "(main h g f)"}, {"[1 3]", "", "(A 1 main 2 g)"},
		{"[1 2]", "", "(+ h g)"}, {"[2]", "", "(whole h)"}, {"[0 3]", "", "(seq (+ 1 main) f)"},
		// Parameters, one of its own name too.
		{"[]", "g ", "g"}, {"[2]", "g ", "(g h)"}, {"[]", "f ", "(f f)"}, {"[3]", "h f g ", "(f g h main)"}, {"[0]", "x g ", "(f x g)"},
		// Fn.
		{"[]", "", "(fn (g) g)"}, {"[2]", "", "(fn (g) (g h))"}, {"[1]", "", "(fn (x) (x g))"}, {"[0]", "", "(fn (g h main) (g h main f))"},
		{"[1]", "", "((fn (g) g) g)"}, {"[1]", "", "(g (fn (g) g))"}, {"[2]", "", "((fn (g) g) h)"}, {"[1 2]", "", "((fn (h) (g h)) (fn (g) (g h)))"},
		{"[]", "", "(fn (g) ((fn (g) g) g))"}, {"[0]", "", "(fn (g) (fn (h) (g h f)))"}, {"[]", "g ", "((fn (g) g) g)"}, {"[]", "g ", "((fn (x) x) g)"},
		// Let: in all that it has.
		{"[]", "", "(let ((g g)) g)"}, {"[2]", "", "(let ((g h)) g)"}, {"[1]", "", "(let ((x g)) x)"}, {"[1]", "", "(let ((x 1)) g)"}, {"[2]", "", "(let ((x g) (g x)) h)"}, {"[]", "", "(let ((g h) (h g)) 1)"},
		{"[1]", "", "((let ((g 1)) g) g)"}, {"[1]", "", "(let ((x (let ((g 1)) g))) g)"}, {"[]", "", "(let ((g (let ((g 1)) g))) g)"}, {"[0 1 3]", "", "(let ((h main) (x g)) f)"},
		// Case: in the alternative alone.
		{"[1]", "", "(case g (_ 1))"}, {"[1]", "", "(case 1 (_ g))"}, {"[1 2]", "", "(case 1 (1 h) (A g))"}, {"[0 1 2 3]", "", "(case main ((B x) h) (A g) (_ f))"},
		{"[]", "", "(case 1 ((B g) g))"}, {"[1]", "", "(case g ((B g) g))"}, {"[1]", "", "(case 1 ((B g) 1) (_ g))"}, {"[1]", "", "(case 1 (A g) ((B g) g))"}, {"[1]", "", "(case 1 ((B g) g) ((B x) g))"}, {"[0]", "", "(case 1 ((C h g) (g h f)))"}, {"[1 2]", "", "(case 1 ((C g h) 1) (1 (g h)))"},
		{"[1]", "", "((case 1 ((B g) g)) g)"}, {"[]", "", "(case 1 ((B g) (case 1 ((B g) g) (_ g))))"}, {"[]", "g ", "(case g ((B g) g) (_ g))"}, {"[2]", "", "(case (fn (g) g) ((B g) (h g)))"},
	} {
		if got := fmt.Sprint(deps.Uses(read(t, ofBodies(x.params, x.body)), 0)); got != x.uses {
			t.Errorf("%s%s: %s; want %s", x.params, x.body, got, x.uses)
		}
	}
}

// A name that a definition's parameters hide is no less that of a definition in the others.
func TestParametersAreOfTheirDefinitionAlone(t *testing.T) {
	want(t, "(def f g g) (def g f (f h)) (def h g) (def main f)", "[[] [2] [1] [0]]", "[[0] [1 2] [1 2] [0 3]]", "[[0] [1 2] [3]]")
	want(t, "(def f main (main f)) (def main (fn (f) f))", "[[0] []]", "[[0] [1]]", "[[0] [1]]")
}

func TestPlacesThatAreNone(t *testing.T) {
	p := read(t, "(data T A) (data U B) (def main f) (def f main)")
	for _, def := range []int{math.MinInt, -2, -1, 2, 3, 4, math.MaxInt} {
		if uses, needed := deps.Uses(p, def), deps.Needed(p, def); len(uses)+len(needed) > 0 {
			t.Error(def, uses, needed)
		}
	}
	for _, def := range []int{-1, 0, 1} {
		p := api.Program{}
		if uses, needed, groups := deps.Uses(p, def), deps.Needed(p, def), deps.Groups(p); len(uses)+len(needed)+len(groups) > 0 {
			t.Error(def, uses, needed, groups)
		}
	}
}

// What the calls answer of a program that is not right is left open; they end.
func TestCallsEndOfAnyProgram(t *testing.T) {
	l := make([]api.Expr, 2)
	for i := range l {
		l[i] = api.Expr{Op: api.App, L: l}
	}
	alts := make([]api.Alt, 2)
	for i := range alts {
		alts[i] = api.Alt{Take: api.TakeAny, E: api.Expr{Op: api.Case, L: make([]api.Expr, 1), Alts: alts}}
	}
	x := api.Expr{Op: api.Var, Name: "x"}
	args := []api.Type{{Name: "T"}, {}}
	args[0].Args = args
	for _, p := range []api.Program{
		{Defs: []api.Def{{Name: "main", Body: l[0]}}},
		{Defs: []api.Def{{Name: "main", Body: alts[0].E}, {}}},
		{Datas: []api.Data{{Name: "T", Cons: []api.Cons{{Name: "C", Args: args}}}}, Defs: []api.Def{{Name: "main", Body: x}}},
		{Datas: make([]api.Data, 300), Defs: make([]api.Def, 2000)},
		{Defs: []api.Def{{Name: "x", Body: x}, {Name: "x", Body: x}, {}, {Body: api.Expr{Op: api.Var}}}},
		{Defs: []api.Def{{Name: "x", Body: x}, {Name: "x", Params: []string{"x", "x"}, Body: x}, {Name: "y", Body: x}, {Name: "z", Body: api.Expr{Op: api.Var, Name: "w"}}}},
		{Defs: []api.Def{{Name: "x", Params: []string{"", "X"}, Body: api.Expr{Op: api.Let, Names: []string{"x", "x"}, Alts: []api.Alt{{}}}}, {Name: "f", Body: api.Expr{Op: math.MinInt, L: make([]api.Expr, 3)}}}},
	} {
		deps.Groups(p)
		for def := -1; def <= min(len(p.Defs), 5); def++ {
			deps.Uses(p, def)
			deps.Needed(p, def)
		}
	}
}
