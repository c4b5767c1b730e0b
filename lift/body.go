package lift

import (
	"slices"

	"gristmill/api"
	"gristmill/free"
)

// body lifts the body of a definition. What it answers is new memory.
type body struct {
	lifter *lifter
	outer  map[string]int // the names that were bound around the Fn of which the definition is made, each with its place among those taken
	bound  map[string]int // how many things in the definition, around the place, bind the name
}

// body is of a definition that takes what the names outer were bound to, and what is its own.
func (l *lifter) body(outer, params []string) body {
	b := body{lifter: l, outer: map[string]int{}, bound: map[string]int{}}
	for i, name := range outer {
		b.outer[name] = i
	}
	b.bind(params, 1)
	return b
}

// bind puts more things around the place that bind the names; by -1 it takes one from around it.
func (b body) bind(names []string, more int) {
	for _, name := range names {
		b.bound[name] += more
	}
}

// isBound is whether the name is bound around the place: what it is does not stand at the top.
func (b body) isBound(name string) bool {
	_, ok := b.outer[name]
	return ok || b.bound[name] > 0
}

// name is what the name has become at the place.
func (b body) name(name string) string {
	if i, ok := b.outer[name]; ok && b.bound[name] == 0 {
		return b.lifter.taken[i]
	}
	return name
}

func (b body) variable(name string) api.Expr {
	return api.Expr{Op: api.Var, Name: b.name(name)}
}

// expr is the expression without a Fn. Only what binds its names in all its parts, here a Let, has Names.
func (b body) expr(e api.Expr) api.Expr {
	switch e.Op {
	case api.Var:
		return b.variable(e.Name)
	case api.Fn:
		return b.function(e)
	}
	out := api.Expr{Op: e.Op, Name: e.Name, N: e.N, Names: slices.Clone(e.Names)}
	b.bind(e.Names, 1)
	for _, part := range e.L {
		out.L = append(out.L, b.expr(part))
	}
	b.bind(e.Names, -1)
	for _, a := range e.Alts {
		out.Alts = append(out.Alts, b.alt(a))
	}
	return out
}

func (b body) alt(a api.Alt) api.Alt {
	b.bind(a.Names, 1)
	defer b.bind(a.Names, -1)
	return api.Alt{Take: a.Take, Name: a.Name, N: a.N, Names: slices.Clone(a.Names), E: b.expr(a.E)}
}

// function is what stands in place of a Fn: the definition made of it, applied to what it takes of what is bound around the place.
func (b body) function(e api.Expr) api.Expr {
	var outer []string
	for _, name := range free.Names(e) {
		if b.isBound(name) {
			outer = append(outer, name)
		}
	}
	of := api.Expr{Op: api.Var, Name: b.lifter.define(e, outer)}
	if len(outer) == 0 {
		return of
	}
	l := []api.Expr{of}
	for _, name := range outer {
		l = append(l, b.variable(name))
	}
	return api.Expr{Op: api.App, L: l}
}
