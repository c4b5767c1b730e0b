package mean

import (
	"slices"

	"gristmill/api"
)

// place is that of a name that is bound: in which frame, from the outermost one on, and where in it.
type place struct{ level, at int }

// reader makes forms of the expressions of a program.
type reader struct {
	cons   map[string]*maker
	defs   map[string]*definition
	places map[string][]place // of what binds the name, the innermost one last
	level  int                // how many frames are around what is read
	failed bool               // a name is not as scope.Check asks: what was read is nothing
}

// newReader has read a program of which scope.Check tells no error.
func newReader(p api.Program) *reader {
	r := &reader{cons: map[string]*maker{}, defs: map[string]*definition{}, places: map[string][]place{}}
	for _, d := range p.Datas {
		for _, c := range d.Cons {
			r.cons[c.Name] = &maker{takes: len(c.Args), name: c.Name}
		}
	}
	for _, d := range p.Defs {
		r.defs[d.Name] = &definition{}
	}
	for _, d := range p.Defs {
		def := r.defs[d.Name]
		def.of = r.maker(d.Params, d.Body)
		def.cell.what = def.of.body
	}
	return r
}

// maker reads what takes the names.
func (r *reader) maker(names []string, body api.Expr) *maker {
	r.bind(names)
	defer r.unbind(names)
	return &maker{takes: len(names), body: r.expr(body)}
}

// bind puts a frame of the names around what is read next; none, if there are no names.
func (r *reader) bind(names []string) {
	if len(names) > 0 {
		r.level++
	}
	for i, name := range names {
		r.failed = r.failed || slices.Contains(names[:i], name)
		r.places[name] = append(r.places[name], place{level: r.level, at: i})
	}
}

// unbind takes it away.
func (r *reader) unbind(names []string) {
	if len(names) > 0 {
		r.level--
	}
	for _, name := range names {
		l := r.places[name]
		r.places[name] = l[:len(l)-1]
	}
}

func (r *reader) expr(e api.Expr) form {
	switch e.Op {
	case api.Var:
		return r.name(e.Name)
	case api.Con:
		return r.constructor(e.Name)
	case api.Int:
		return ready{whole(e.N)}
	case api.Flo:
		return ready{float(e.N)}
	case api.App:
		l := r.exprs(e.L)
		return app{first: l[0], args: l[1:]}
	case api.Fn:
		return fn{r.maker(e.Names, e.L[0])}
	case api.Let:
		return r.let(e)
	case api.Case:
		return r.choice(e)
	case api.Prim:
		return r.prim(e)
	}
	return fault{e.N}
}

func (r *reader) exprs(l []api.Expr) (out []form) {
	for _, e := range l {
		out = append(out, r.expr(e))
	}
	return out
}

func (r *reader) name(name string) form {
	if l := r.places[name]; len(l) > 0 {
		last := l[len(l)-1]
		return bound{up: r.level - last.level, at: last.at}
	}
	def, ok := r.defs[name]
	r.failed = r.failed || !ok
	return def
}

func (r *reader) constructor(name string) form {
	of, ok := r.cons[name]
	switch {
	case !ok:
		r.failed = true
		return nil
	case of.takes == 0:
		return ready{&tree{name: name}}
	}
	return ready{&function{of: of}}
}

func (r *reader) let(e api.Expr) form {
	r.bind(e.Names)
	defer r.unbind(e.Names)
	l := r.exprs(e.L)
	last := len(l) - 1
	return let{parts: l[:last], in: l[last]}
}

func (r *reader) choice(e api.Expr) form {
	f := choice{about: r.expr(e.L[0])}
	for _, a := range e.Alts {
		f.alts = append(f.alts, r.alt(a))
	}
	return f
}

func (r *reader) alt(a api.Alt) alt {
	if a.Take == api.TakeCon {
		of, ok := r.cons[a.Name]
		r.failed = r.failed || !ok || of.takes != len(a.Names)
	}
	r.bind(a.Names)
	defer r.unbind(a.Names)
	return alt{take: a.Take, name: a.Name, n: a.N, binds: len(a.Names) > 0, is: r.expr(a.E)}
}

func (r *reader) prim(e api.Expr) form {
	l := r.exprs(e.L)
	switch {
	case len(l) == 1:
		return ofOne{name: e.Name, arg: l[0]}
	case e.Name == "seq":
		return seq{first: l[0], second: l[1]}
	}
	return ofTwo{name: e.Name, a: l[0], b: l[1]}
}
