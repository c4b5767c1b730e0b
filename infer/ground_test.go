package infer_test

import (
	"slices"
	"testing"

	"gristmill/api"
	"gristmill/exprs"
	"gristmill/infer"
	"gristmill/types"
)

// ground is the rules of the chapter without variables: which types of a few does an expression have, when each name has some of them. A type is its place among the few, -1 one that is not among them.
type ground struct {
	few  []api.Type
	list []int   // of each: the list of it
	from []int   // of each: what a list is of, or what a function takes
	to   []int   // of each: what a function is then; of others -1
	fun  [][]int // of each, and each: the function from it to that
}

// set is, for each of the few types, whether it is in.
type set []bool

// newGround has the types of at most three levels of Int, L and functions.
func newGround() *ground {
	g := &ground{few: []api.Type{{Name: "Int"}}}
	for range 2 {
		next := []api.Type{{Name: "Int"}}
		for _, a := range g.few {
			next = append(next, api.Type{Name: "L", Args: []api.Type{a}})
			for _, b := range g.few {
				next = append(next, types.Fun([]api.Type{a}, b))
			}
		}
		g.few = next
	}
	place := func(t api.Type) int {
		return slices.IndexFunc(g.few, func(x api.Type) bool { return types.Same(x, t) })
	}
	for _, a := range g.few {
		from, to := -1, -1
		if len(a.Args) > 0 {
			from = place(a.Args[0])
		}
		if len(a.Args) > 1 {
			to = place(a.Args[1])
		}
		var fun []int
		for _, b := range g.few {
			fun = append(fun, place(types.Fun([]api.Type{a}, b)))
		}
		g.list, g.from, g.to, g.fun = append(g.list, place(api.Type{Name: "L", Args: []api.Type{a}})), append(g.from, from), append(g.to, to), append(g.fun, fun)
	}
	return g
}

// with puts the type into the set, if it is one of the few.
func (s set) with(i int) {
	if i >= 0 {
		s[i] = true
	}
}

func (g *ground) only(i int) set {
	s := make(set, len(g.few))
	s[i] = true
	return s
}

// binding is a name and the types that it has.
type binding struct {
	name  string
	types set
}

func (g *ground) expr(e api.Expr, around []binding) set {
	part := func(e api.Expr, more ...binding) set { return g.expr(e, slices.Concat(around, more)) }
	s := make(set, len(g.few))
	switch e.Op {
	case api.Var:
		for _, b := range slices.Backward(around) {
			if b.name == e.Name {
				return b.types
			}
		}
	case api.Int:
		s[0] = true
	case api.Con: // N: a C stands only where it is applied to two
		for i := range g.few {
			s.with(g.list[i])
		}
	case api.App:
		if e.L[0].Name == "C" {
			rest := part(e.L[2])
			part(e.L[1]).each(func(i int) {
				if k := g.list[i]; k >= 0 && rest[k] {
					s[k] = true
				}
			})
			return s
		}
		arg := part(e.L[1])
		part(e.L[0]).each(func(i int) {
			if g.to[i] >= 0 && arg[g.from[i]] {
				s[g.to[i]] = true
			}
		})
	case api.Fn:
		for i := range g.few {
			part(e.L[0], binding{e.Names[0], g.only(i)}).each(func(k int) { s.with(g.fun[i][k]) })
		}
	case api.Let:
		for i := range g.few {
			s[i] = part(e.L[0], binding{e.Names[0], g.only(i)})[i]
		}
		if !slices.Contains(s, true) {
			return s
		}
		return part(e.L[1], binding{e.Names[0], s})
	case api.Case: // of a list: N, then C x y
		none := part(e.Alts[0].E)
		part(e.L[0]).each(func(i int) {
			if g.few[i].Name == "L" {
				part(e.Alts[1].E, binding{"x", g.only(g.from[i])}, binding{"y", g.only(i)}).each(func(k int) {
					s[k] = s[k] || none[k]
				})
			}
		})
	}
	return s
}

// each does it for each type that is in.
func (s set) each(do func(int)) {
	for i, is := range s {
		if is {
			do(i)
		}
	}
}

// Whatever type the rules give to an expression, it is an instance of what Expr tells.
func TestTheTypeIsTheMostGeneral(t *testing.T) {
	g := newGround()
	p := read(t, lists+"(def main 1)")
	none := api.Expr{Op: api.Con, Name: "N"}
	unary := []func(api.Expr) api.Expr{func(e api.Expr) api.Expr { return fn(e, "x") }, func(e api.Expr) api.Expr { return fn(e, "y") }}
	binary := []func(a, b api.Expr) api.Expr{
		func(a, b api.Expr) api.Expr { return app(a, b) },
		func(a, b api.Expr) api.Expr { return app(api.Expr{Op: api.Con, Name: "C"}, a, b) },
		func(a, b api.Expr) api.Expr { return let("x", a, b) },
		func(a, b api.Expr) api.Expr { return let("y", a, b) },
		func(a, b api.Expr) api.Expr {
			return cases(a, api.Alt{Take: api.TakeCon, Name: "N", E: a}, api.Alt{Take: api.TakeCon, Name: "C", Names: []string{"x", "y"}, E: b})
		},
	}
	has, hasNot, beside := 0, 0, 0
	for _, l := range exprs.Grow(4, []api.Expr{v("x"), v("y"), {Op: api.Int, N: 1}, none}, unary, binary) {
		for _, e := range l {
			most, err := infer.Expr(p, fn(e, "x", "y"))
			for i, x := range g.few {
				for k, y := range g.few {
					s := g.expr(e, []binding{{"x", g.only(i)}, {"y", g.only(k)}})
					for n, to := range g.few {
						is := err == nil && types.Instance(most, types.Fun([]api.Type{x, y}, to))
						switch {
						case s[n] && !is:
							t.Fatalf("%s: %q, %v; it can be %q, where x is %q and y is %q", exprText(e), types.Text(most), err, types.Text(to), types.Text(x), types.Text(y))
						case s[n]:
							has++
						case is:
							beside++ // by types that are not among the few
						default:
							hasNot++
						}
					}
				}
			}
		}
	}
	if has < 1000 || hasNot < 1000 || beside > has/10 {
		t.Error(has, hasNot, beside)
	}
}
