package free

import "gristmill/api"

// find calls found with the name of each free Var of e, in order.
func find(e api.Expr, found func(name string)) {
	f := finder{bound: map[string]int{}, found: found}
	f.find(e)
}

// finder finds what is free in an expression.
type finder struct {
	bound map[string]int // how many things around the place bind the name
	found func(name string)
}

// find finds it in a part. Only what binds its names in all its parts, a Fn or a Let, has Names.
func (f finder) find(e api.Expr) {
	if e.Op == api.Var && f.bound[e.Name] == 0 {
		f.found(e.Name)
	}
	f.within(e.Names, e.L...)
	for _, a := range e.Alts {
		f.within(a.Names, a.E)
	}
}

// within finds it in parts in which the names are bound.
func (f finder) within(names []string, parts ...api.Expr) {
	for _, name := range names {
		f.bound[name]++
	}
	for _, part := range parts {
		f.find(part)
	}
	for _, name := range names {
		f.bound[name]--
	}
}
