package lift_test

import (
	"math/rand/v2"
	"slices"
	"strings"
	"testing"

	"gristmill/api"
	"gristmill/exprs"
	"gristmill/programs"
)

func TestProgramsByChance(t *testing.T) {
	for _, wrong := range []int{0, 30} {
		var n tally
		w := programs.Writer{Chance: rand.New(rand.NewPCG(13, uint64(wrong))), Wrong: wrong}
		for range 800 {
			n.hold(t, read(t, w.Program()), 4, 5000)
		}
		if n.lifted < 1500 || n.deep < 400 || n.fault < 200 || n.nothing < 400 {
			t.Error(n)
		}
	}
}

// names writes expressions by chance that are little but names and what binds them.
type names struct{ *rand.Rand }

func (w names) pick(l []string) string { return l[w.IntN(len(l))] }

// some is from one to most names, each once.
func (w names) some(most int) []string {
	l := []string{"f", "v", "f_1", "v_1", "k", "main", "x"}
	w.Shuffle(len(l), func(i, k int) { l[i], l[k] = l[k], l[i] })
	return l[:1+w.IntN(most)]
}

// expr writes one in which the names in may stand, so deep.
func (w names) expr(deep int, in []string) string {
	part := func(more ...string) string { return w.expr(deep-1, slices.Concat(in, more)) }
	if deep <= 0 || w.IntN(8) == 0 {
		return w.pick(append([]string{"1", "N", "C", "(k 1)", "P"}, slices.Concat(in, in, in)...))
	}
	l := w.some(3)
	switch w.IntN(9) {
	case 0, 1, 2:
		return "(fn (" + strings.Join(l, " ") + ") " + part(l...) + ")"
	case 3:
		s := "((fn (" + strings.Join(l, " ") + ") " + part(l...) + ")"
		for range l {
			s += " " + part()
		}
		return s + ")"
	case 4:
		s := ""
		for _, name := range l {
			s += "(" + name + " " + part(l...) + ")"
		}
		return "(let (" + s + ") " + part(l...) + ")"
	case 5:
		return "(case " + part() + " ((P " + strings.Join(append(l, "y", "z")[:2], " ") + ") " + part(append(l, "y", "z")[:2]...) + ") (1 " + part() + ") (_ " + part() + "))"
	case 6:
		return "(P " + part() + " " + part() + ")"
	case 7:
		return "(" + w.pick(in) + " " + part() + ")"
	}
	return "(" + part() + " " + part() + ")"
}

// What binds within what binds, of few names, some of them those that new ones might have.
func TestNamesByChance(t *testing.T) {
	var n tally
	w := names{rand.New(rand.NewPCG(13, 1))}
	for range 4000 {
		params := w.some(3)
		s := lists + "(def k x y x) (def g " + strings.Join(params, " ") + " " + w.expr(3, append(params, "k", "g", "main")) + ") (def main " + w.expr(2+w.IntN(5), []string{"k", "g", "main"}) + ")"
		n.hold(t, read(t, s), 3, 400)
	}
	if n.lifted < 5000 || n.deep < 1000 || n.nothing < 2000 {
		t.Error(n)
	}
}

// Every expression of a few parts, where its names are bound in each way.
func TestAllSmallExpressions(t *testing.T) {
	p := read(t, lists+"(def k x y x) (def v (+ 1 1)) (def main 1)")
	leaves := []api.Expr{v("f"), v("v"), v("k"), {Op: api.Int, N: 1}}
	unary := []func(e api.Expr) api.Expr{
		func(e api.Expr) api.Expr { return fn(e, "f") },
		func(e api.Expr) api.Expr { return fn(e, "v", "f") },
	}
	binary := []func(a, b api.Expr) api.Expr{
		func(a, b api.Expr) api.Expr { return app(a, b) },
		func(a, b api.Expr) api.Expr { return app(api.Expr{Op: api.Con, Name: "P"}, a, b) },
		func(a, b api.Expr) api.Expr { return let([]string{"f"}, a, b) },
		func(a, b api.Expr) api.Expr { return let([]string{"v", "f"}, a, b, v("f")) },
		func(a, b api.Expr) api.Expr {
			return api.Expr{Op: api.Case, L: []api.Expr{a}, Alts: []api.Alt{{Take: api.TakeCon, Name: "P", Names: []string{"v", "f"}, E: b}, {Take: api.TakeAny, E: v("v")}}}
		},
	}
	var n tally
	for _, l := range exprs.Grow(5, leaves, unary, binary) {
		for _, e := range l {
			for _, e := range []api.Expr{app(fn(e, "f"), v("k")), let([]string{"f"}, app(v("k"), v("v")), e), let([]string{"f", "v"}, v("k"), api.Expr{Op: api.Int, N: 3}, e)} {
				p.Defs[2].Body = e
				n.hold(t, p, 2, 60)
			}
		}
	}
	if n.lifted < 20000 || n.deep < 2000 || n.nothing < 5000 {
		t.Error(n)
	}
}

// let is of the names, each of which is what stands at its place in l, all in the last of l.
func let(names []string, l ...api.Expr) api.Expr {
	return api.Expr{Op: api.Let, Names: names, L: l}
}
