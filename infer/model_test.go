package infer_test

import (
	"errors"
	"slices"
	"strconv"

	"gristmill/api"
	"gristmill/deps"
	"gristmill/types"
)

// model is the chapter written another way: types as they are written, what each variable became, and what is free in the types of all that is around where a name becomes general.
type model struct {
	p      api.Program
	made   int
	became map[string]api.Type // there may be others in it that became something
	steps  int                 // how many it went
	over   bool                // a type of more than MaxType types was met
}

func newModel(p api.Program) *model {
	return &model{p: p, became: map[string]api.Type{}}
}

// noTypes is what the model panics with, where there are none.
var noTypes = errors.New("there are no types")

// large is what it panics with, where it can't tell.
var large = errors.New("too large to be written out")

// named is a name that is bound around, the type of it, and the variables of that which are general.
type named struct {
	name    string
	t       api.Type
	general []string
}

func (m *model) fresh() api.Type {
	m.made++
	return api.Type{Name: "t" + strconv.Itoa(m.made)}
}

// step is one of those that the model goes, which are not without an end.
func (m *model) step() {
	m.steps++
	if m.steps > 1<<20 {
		panic(large)
	}
}

// top is what the type is, if it is a variable that became something.
func (m *model) top(t api.Type) api.Type {
	for {
		to, ok := m.became[t.Name]
		if !ok {
			return t
		}
		t = to
	}
}

func isVar(t api.Type) bool { return 'a' <= t.Name[0] && t.Name[0] <= 'z' }

func (m *model) same(a, b api.Type) {
	m.step()
	a, b = m.top(a), m.top(b)
	switch {
	case isVar(a) && a.Name == b.Name:
	case isVar(a) && !m.has(b, a.Name):
		m.became[a.Name] = b
	case isVar(b) && !m.has(a, b.Name):
		m.became[b.Name] = a
	case a.Name != b.Name || len(a.Args) != len(b.Args):
		panic(noTypes)
	default:
		for i := range a.Args {
			m.same(a.Args[i], b.Args[i])
		}
	}
}

// has is whether the variable is in the type.
func (m *model) has(t api.Type, name string) bool {
	m.step()
	t = m.top(t)
	return t.Name == name || slices.ContainsFunc(t.Args, func(arg api.Type) bool { return m.has(arg, name) })
}

// solved is the type with all that its variables became.
func (m *model) solved(t api.Type) api.Type {
	m.step()
	out := api.Type{Name: m.top(t).Name}
	for _, arg := range m.top(t).Args {
		out.Args = append(out.Args, m.solved(arg))
	}
	return out
}

// instance is the type with new variables for those of the names.
func (m *model) instance(t api.Type, names []string) api.Type {
	var to []api.Type
	for range names {
		to = append(to, m.fresh())
	}
	return types.Apply(t, names, to)
}

// generalized is the name with what is general in its type, where those are around.
func (m *model) generalized(n named, around []named) named {
	n.t = m.solved(n.t)
	if len(argsOf(n.t)) > api.MaxType {
		m.over = true
		panic(noTypes)
	}
	n.general = types.Vars(n.t)
	for _, other := range around {
		if len(types.Vars(other.t)) == len(other.general) {
			continue
		}
		free := types.Vars(m.solved(other.t))
		n.general = slices.DeleteFunc(n.general, func(v string) bool {
			return slices.Contains(free, v) && !slices.Contains(other.general, v)
		})
	}
	return n
}

func (m *model) cons(name string) api.Type {
	for _, d := range m.p.Datas {
		for _, c := range d.Cons {
			if c.Name != name {
				continue
			}
			to := api.Type{Name: d.Name}
			for _, param := range d.Params {
				to.Args = append(to.Args, api.Type{Name: param})
			}
			return m.instance(types.Fun(c.Args, to), d.Params)
		}
	}
	panic(noTypes)
}

func modelPrim(name string) string {
	switch name {
	case "f+", "f-", "f*", "f/":
		return "(-> Float (-> Float Float))"
	case "f<", "f=":
		return "(-> Float (-> Float Int))"
	case "float":
		return "(-> Int Float)"
	case "whole":
		return "(-> Float Int)"
	case "seq":
		return "(-> a (-> b b))"
	}
	return "(-> Int (-> Int Int))"
}

func (m *model) exprs(l []api.Expr, around []named) (out []api.Type) {
	for _, e := range l {
		out = append(out, m.expr(e, around))
	}
	return out
}

// bound is the names as they are bound to the types, behind those around.
func bound(around []named, names []string, l []api.Type) []named {
	sorted := slices.Sorted(slices.Values(names))
	if len(slices.Compact(sorted)) < len(names) {
		panic(noTypes)
	}
	around = slices.Clip(around)
	for i, name := range names {
		around = append(around, named{name: name, t: l[i]})
	}
	return around
}

func (m *model) expr(e api.Expr, around []named) api.Type {
	switch e.Op {
	case api.Var:
		for _, n := range slices.Backward(around) {
			if n.name == e.Name {
				return m.instance(n.t, n.general)
			}
		}
		panic(noTypes)
	case api.Con:
		return m.cons(e.Name)
	case api.Int:
		return api.Type{Name: "Int"}
	case api.Flo:
		return api.Type{Name: "Float"}
	case api.Fn:
		args := m.freshes(len(e.Names))
		return types.Fun(args, m.expr(e.L[0], bound(around, e.Names, args)))
	case api.Let:
		return m.let(e, around)
	case api.Case:
		return m.choice(e, around)
	}
	to := m.fresh()
	l := m.exprs(e.L, around)
	switch e.Op {
	case api.App:
		m.same(l[0], types.Fun(l[1:], to))
	case api.Prim:
		t, _ := types.Parse(modelPrim(e.Name))
		m.same(m.instance(t, types.Vars(t)), types.Fun(l, to))
	}
	return to
}

func (m *model) freshes(n int) (l []api.Type) {
	for range n {
		l = append(l, m.fresh())
	}
	return l
}

func (m *model) let(e api.Expr, around []named) api.Type {
	n := len(e.Names)
	inner := bound(around, e.Names, m.freshes(n))
	for i, part := range e.L[:n] {
		m.same(inner[len(around)+i].t, m.expr(part, inner))
	}
	for i := range n {
		inner[len(around)+i] = m.generalized(inner[len(around)+i], around)
	}
	return m.expr(e.L[n], inner)
}

func (m *model) choice(e api.Expr, around []named) api.Type {
	about, to := m.expr(e.L[0], around), m.fresh()
	var takes []api.Type
	for _, a := range e.Alts {
		inner := around
		switch a.Take {
		case api.TakeInt:
			takes = append(takes, api.Type{Name: "Int"})
		case api.TakeCon:
			t := m.cons(a.Name)
			var args []api.Type
			for t.Name == "->" {
				args, t = append(args, t.Args[0]), t.Args[1]
			}
			if len(args) != len(a.Names) {
				panic(noTypes)
			}
			takes = append(takes, t)
			inner = bound(around, a.Names, args)
		}
		m.same(to, m.expr(a.E, inner))
	}
	for _, take := range takes {
		m.same(about, take)
	}
	return to
}

// passNoTypes ends what panicked, as there are none.
func passNoTypes() {
	if err := recover(); err != nil && err != noTypes {
		panic(err)
	}
}

// defs is the definitions with their types, and, where there are none, the place of the one with which it is so, else -1.
func (m *model) defs() (known []named, place int) {
	defer passNoTypes()
	for _, group := range deps.Groups(m.p) {
		inner := known
		for _, i := range group {
			inner = bound(inner, []string{m.p.Defs[i].Name}, m.freshes(1))
		}
		for k, i := range group {
			place = i
			d := m.p.Defs[i]
			args := m.freshes(len(d.Params))
			m.same(inner[len(known)+k].t, types.Fun(args, m.expr(d.Body, bound(inner, d.Params, args))))
		}
		for k := range group {
			inner[len(known)+k] = m.generalized(inner[len(known)+k], known)
		}
		known = inner
	}
	return known, -1
}

// types is what Types has to answer of a program that scope.Check takes: the Texts of the types, and the place of the error, else -1.
func (m *model) types() (l []string, place int) {
	known, place := m.defs()
	if place >= 0 {
		return nil, place
	}
	for _, d := range m.p.Defs {
		i := slices.IndexFunc(known, func(n named) bool { return n.name == d.Name })
		l = append(l, types.Text(types.Norm(known[i].t)))
	}
	return l, -1
}

// typeOf is the Text of what Expr has to answer of a right program; empty, if the expression has no type.
func (m *model) typeOf(known []named, e api.Expr) (s string) {
	defer passNoTypes()
	t := m.solved(m.expr(e, known))
	if len(argsOf(t)) > api.MaxType {
		return ""
	}
	return types.Text(types.Norm(t))
}
