package deps

import (
	"gristmill/api"
	"gristmill/scope"
)

// finder finds the definitions that are free in an expression.
type finder struct {
	p     api.Program
	bound map[string]int // how many things around the place bind the name, definitions left out
	free  []bool         // of each definition, whether it was found
}

// usesOf is, of each definition of the program, whether it is free in the body of d.
func usesOf(p api.Program, d api.Def) []bool {
	f := finder{p: p, bound: map[string]int{}, free: make([]bool, len(p.Defs))}
	f.bind(d.Params, 1)
	f.find(d.Body)
	return f.free
}

// bind puts more things around the place that bind the names; by -1 it takes one from around it.
func (f finder) bind(names []string, more int) {
	for _, name := range names {
		f.bound[name] += more
	}
}

// find finds what is free in the expression. Only what binds its names in all its parts, a Fn or a Let, has Names.
func (f finder) find(e api.Expr) {
	if e.Op == api.Var && f.bound[e.Name] == 0 {
		if i, ok := scope.Def(f.p, e.Name); ok {
			f.free[i] = true
		}
	}
	f.bind(e.Names, 1)
	for _, part := range e.L {
		f.find(part)
	}
	f.bind(e.Names, -1)
	for _, a := range e.Alts {
		f.bind(a.Names, 1)
		f.find(a.E)
		f.bind(a.Names, -1)
	}
}
