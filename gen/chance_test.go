package gen_test

import (
	"math/rand/v2"
	"strconv"
	"strings"
	"testing"

	"gristmill/api"
	"gristmill/exprs"
	"gristmill/infer"
	"gristmill/lift"
	"gristmill/programs"
)

func TestProgramsByChance(t *testing.T) {
	var n tally
	w := programs.Writer{Chance: rand.New(rand.NewPCG(16, 1))}
	for range 1800 {
		p := read(t, w.Program())
		if _, err := infer.Types(p); err == nil {
			n.hold(t, lifted(t, p), 3)
		}
	}
	if n.seen < 1800 || n.deep < 700 || n.fault < 300 || n.nothing < 300 {
		t.Error(n)
	}
}

// Those that are not right have steps, too: what they do is not promised.
func TestWrongProgramsByChance(t *testing.T) {
	w := programs.Writer{Chance: rand.New(rand.NewPCG(16, 2)), Wrong: 5}
	wrong := 0
	for range 1000 {
		p, err := lift.Lift(read(t, w.Program()))
		if err != nil {
			t.Fatal(err)
		}
		if _, err := infer.Types(p); err != nil {
			wrong++
		}
		generated(t, p)
	}
	if wrong < 400 {
		t.Error(wrong)
	}
}

// wide writes programs by chance in which far more names are bound than a function may take.
type wide struct {
	*rand.Rand
	made int
}

func (w *wide) pick(l []string) string { return l[w.IntN(len(l))] }

// name is a new one, or, now and then, one that there was.
func (w *wide) name(in []string) string {
	if len(in) > 0 && w.IntN(30) == 0 {
		return w.pick(in)
	}
	w.made++
	return "n" + strconv.Itoa(w.made)
}

// sum is one of as many of the names; each is a number.
func (w *wide) sum(n int, in []string) string {
	s := "(k"
	for range n {
		s += " " + w.pick(in)
		if w.IntN(9) == 0 {
			s += " one"
		}
	}
	words := strings.Fields(s)[1:]
	for len(words) > 60 {
		words = append(words[59:], "(sum "+strings.Join(words[:59], " ")+")")
	}
	for len(words) < 59 {
		words = append(words, "0")
	}
	return "(sum " + strings.Join(words[:59], " ") + ")"
}

// expr writes a number in which the names are known, so deep.
func (w *wide) expr(deep int, in []string) string {
	part := func(more ...string) string { return w.expr(deep-1, append(in[:len(in):len(in)], more...)) }
	if deep == 0 || w.IntN(12) == 0 {
		return w.sum(1+w.IntN(120), in)
	}
	switch w.IntN(8) {
	case 0:
		return "(id " + part() + ")"
	case 1:
		return "(add " + part() + " " + part() + ")"
	case 2:
		return "(+ (case " + part() + " (7 1) (_ " + part() + ")) 1)"
	case 3:
		a, b := w.name(in), w.name(nil)
		return "(case (P " + part() + " " + part() + ") ((P " + a + " " + b + ") " + part(a, b) + "))"
	}
	s, names := "", []string{}
	for range 1 + w.IntN(60) {
		// A new one, as what it is may have any of the others.
		names = append(names, w.name(nil))
		s += "(" + names[len(names)-1] + " " + w.part(in, names) + ")"
	}
	return "(let (" + s + ") " + part(names...) + ")"
}

// part is what a name is in a Let that binds such names.
func (w *wide) part(in, names []string) string {
	in = append(in[:len(in):len(in)], names[:len(names)-1]...)
	switch w.IntN(5) {
	case 0:
		return strconv.Itoa(w.IntN(9))
	case 1:
		return w.pick(in)
	case 2:
		return "(lazy " + names[len(names)-1] + " " + w.pick(in) + ")"
	case 3:
		return w.sum(55+w.IntN(15), in)
	}
	return "(id " + w.pick(in) + ")"
}

func TestWideProgramsByChance(t *testing.T) {
	var n tally
	w := wide{Rand: rand.New(rand.NewPCG(16, 3))}
	params, all := "", "0"
	for i := range 59 {
		params += " a" + strconv.Itoa(i)
		all = "(- a" + strconv.Itoa(i) + " " + all + ")"
	}
	tops := lists + "(def id x x) (def add x y (+ x y)) (def one 1) (def lazy x y (id y)) (def sum" + params + " " + all + ")"
	for range 250 {
		s := tops + "(def main " + w.expr(1+w.IntN(4), []string{"one"}) + ")"
		if len(s) < api.MaxText {
			n.hold(t, lifted(t, read(t, s)), 1)
		}
	}
	if n.seen < 300 {
		t.Error(n)
	}
}

// Every right expression of a few parts.
func TestAllSmallExpressions(t *testing.T) {
	v := func(name string) api.Expr { return api.Expr{Op: api.Var, Name: name} }
	op := func(op int, name string, l ...api.Expr) api.Expr { return api.Expr{Op: op, Name: name, L: l} }
	one := api.Expr{Op: api.Int, N: 1}
	p := read(t, lists+"(def k x y x) (def v (+ 1 1)) (def t x (k x main)) (def main 1)")
	leaves := []api.Expr{v("f"), v("v"), v("k"), v("t"), one, op(api.Con, "C"), op(api.Con, "N")}
	unary := []func(e api.Expr) api.Expr{
		func(e api.Expr) api.Expr { return api.Expr{Op: api.Fn, Names: []string{"f"}, L: []api.Expr{e}} },
		func(e api.Expr) api.Expr {
			return api.Expr{Op: api.Case, L: []api.Expr{e}, Alts: []api.Alt{{Take: api.TakeInt, N: 1, E: v("f")}, {Take: api.TakeAny, E: one}}}
		},
	}
	binary := []func(a, b api.Expr) api.Expr{
		func(a, b api.Expr) api.Expr { return op(api.App, "", a, b) },
		func(a, b api.Expr) api.Expr { return op(api.App, "", op(api.Con, "C"), a, b) },
		func(a, b api.Expr) api.Expr { return op(api.Prim, "+", a, b) },
		func(a, b api.Expr) api.Expr { return op(api.Prim, "seq", a, b) },
		func(a, b api.Expr) api.Expr {
			return api.Expr{Op: api.Let, Names: []string{"f"}, L: []api.Expr{a, b}}
		},
		func(a, b api.Expr) api.Expr {
			return api.Expr{Op: api.Let, Names: []string{"g", "f"}, L: []api.Expr{a, v("g"), b}}
		},
		func(a, b api.Expr) api.Expr {
			return api.Expr{Op: api.Case, L: []api.Expr{a}, Alts: []api.Alt{{Take: api.TakeCon, Name: "C", Names: []string{"v", "f"}, E: b}, {Take: api.TakeAny, E: v("f")}}}
		},
	}
	var n tally
	for _, l := range exprs.Grow(5, leaves, unary, binary) {
		for k, e := range l {
			// Its names are bound in one way or another.
			around := []api.Expr{{Op: api.Let, Names: []string{"f"}, L: []api.Expr{one, e}}, {Op: api.Let, Names: []string{"f"}, L: []api.Expr{v("k"), e}}, op(api.App, "", api.Expr{Op: api.Fn, Names: []string{"f"}, L: []api.Expr{e}}, op(api.Con, "N"))}
			p.Defs[3].Body = around[k%3]
			if _, err := infer.Types(p); err == nil {
				n.hold(t, lifted(t, p), 1)
			}
		}
	}
	if n.seen < 10000 || n.deep < 500 || n.nothing < 300 {
		t.Error(n)
	}
}
