package infer

import (
	"slices"

	"gristmill/api"
)

// expr finds the type of the expression: those of its parts, in order, then what they have to be for it.
func (f *finder) expr(e api.Expr) *node {
	switch e.Op {
	case api.Var:
		return f.use(f.boundTo(e.Name))
	case api.Con:
		return f.cons(e.Name)
	case api.Int:
		return con(ofInt)
	case api.Flo:
		return con(ofFloat)
	case api.App:
		l := f.exprs(e.L)
		return f.apply(l[0], l[1:])
	case api.Prim:
		return f.apply(f.prim(e.Name), f.exprs(e.L))
	case api.Fn:
		return f.function(e.Names, e.L[0])
	case api.Let:
		return f.let(e)
	case api.Case:
		return f.choice(e)
	}
	return f.variable() // a Fail
}

func (f *finder) exprs(l []api.Expr) (out []*node) {
	for _, e := range l {
		out = append(out, f.expr(e))
	}
	return out
}

// apply is the type of what a function is of the arguments.
func (f *finder) apply(function *node, args []*node) *node {
	to := f.variable()
	f.unify(function, f.fun(args, to))
	return to
}

// function is the type of a function of the names; the type of the body, if there are none.
func (f *finder) function(names []string, body api.Expr) *node {
	args := f.vars(len(names))
	f.bind(names, args)
	defer f.unbind(names)
	return f.fun(args, f.expr(body))
}

// let is the type of what the Let is all in: there its names are general, in the parts ahead each has one type.
func (f *finder) let(e api.Expr) *node {
	f.level++
	names := f.vars(len(e.Names))
	f.bind(e.Names, names)
	defer f.unbind(e.Names)
	for i, name := range names {
		f.unify(name, f.expr(e.L[i]))
	}
	f.level--
	for _, name := range names {
		f.generalize(name)
	}
	return f.expr(e.L[len(names)])
}

// choice is the type that the Case and the E of each of its Alts have. What it is about meets what the Alts take only behind all of them: how large the type of a Let's name in an Alt is hangs on the order, which the document has so.
func (f *finder) choice(e api.Expr) *node {
	about, to := f.expr(e.L[0]), f.variable()
	var takes []*node
	for _, a := range e.Alts {
		take, names := f.taken(a)
		takes = append(takes, take)
		f.bind(a.Names, names)
		f.unify(to, f.expr(a.E))
		f.unbind(a.Names)
	}
	for _, take := range takes {
		f.unify(about, take)
	}
	return to
}

// taken is the type of what the alternative takes, and those of its names.
func (f *finder) taken(a api.Alt) (take *node, names []*node) {
	switch a.Take {
	case api.TakeInt:
		return con(ofInt), nil
	case api.TakeAny:
		return f.variable(), nil
	}
	take = f.cons(a.Name).root()
	for range a.Names {
		if take.name != arrow {
			f.failed = true
			return take, f.vars(len(a.Names))
		}
		names = append(names, take.args[0])
		take = take.args[1].root()
	}
	if take.name == arrow {
		f.failed = true // it has more than there are names
	}
	return take, names
}

// cons is the type of a use of the constructor.
func (f *finder) cons(name string) *node {
	return f.useGiven(name, func() (api.Type, bool) { return Cons(f.p, name) })
}

// prim is the type of a use of the prim.
func (f *finder) prim(name string) *node {
	return f.useGiven(name, func() (api.Type, bool) { return Prim(name) })
}

// useGiven is the type of a use of what has a type that is given, which it looks up once.
func (f *finder) useGiven(name string, look func() (api.Type, bool)) *node {
	if _, ok := f.given[name]; !ok {
		t, ok := look()
		if !ok {
			f.failed = true
			return f.variable()
		}
		f.given[name] = read(t, map[string]*node{})
	}
	return f.use(f.given[name])
}

// boundTo is the type of what binds the name.
func (f *finder) boundTo(name string) *node {
	l := f.names[name]
	if len(l) == 0 {
		f.failed = true
		return f.variable()
	}
	return l[len(l)-1]
}

// bind puts things of these types around the place that bind the names, which have to differ.
func (f *finder) bind(names []string, l []*node) {
	for i, name := range names {
		f.failed = f.failed || slices.Contains(names[:i], name)
		f.names[name] = append(f.names[name], l[i])
	}
}

// unbind takes what binds the names from around the place.
func (f *finder) unbind(names []string) {
	for _, name := range names {
		l := f.names[name]
		f.names[name] = l[:len(l)-1]
	}
}
