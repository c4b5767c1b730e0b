package scope_test

import (
	"slices"

	"gristmill/api"
)

// model is the chapter written another way: all that is wrong with a program, in order, told by lists of names in place of tables.
type model struct {
	p      api.Program
	faults []error
}

// tell adds an error, if it holds.
func (m *model) tell(place int, err error, wrong bool) {
	if wrong {
		m.faults = append(m.faults, &api.At{Pos: place, Err: err})
	}
}

// modelCheck is what Check has to tell of a program that syn.Valid takes.
func modelCheck(p api.Program) error {
	m := &model{p: p}
	for i := range p.Datas {
		m.namesOfData(i)
	}
	for i := range p.Datas {
		m.typesOfData(i)
	}
	for i := range p.Defs {
		m.def(i)
	}
	isMain := func(d api.Def) bool { return d.Name == "main" && len(d.Params) == 0 }
	if !slices.ContainsFunc(p.Defs, isMain) {
		m.faults = append(m.faults, api.ErrMain)
	}
	return append(m.faults, nil)[0]
}

func count(l []string, name string) (n int) {
	for _, s := range l {
		if s == name {
			n++
		}
	}
	return n
}

// anyTwice is whether two of the list are the same.
func anyTwice(l []string) bool {
	sorted := slices.Sorted(slices.Values(l))
	return len(slices.Compact(sorted)) < len(l)
}

func (m *model) namesOfData(place int) {
	datas, conses := []string{"Int", "Float"}, []string(nil)
	for _, d := range m.p.Datas[:place+1] {
		datas = append(datas, d.Name)
		for _, c := range d.Cons {
			conses = append(conses, c.Name)
		}
	}
	d := m.p.Datas[place]
	m.tell(place, api.ErrTwice, count(datas, d.Name) > 1 || anyTwice(d.Params) || anyTwice(conses))
}

// flat is the types and all that are in them, those around ahead of those in them.
func flat(l []api.Type) (out []api.Type) {
	for _, t := range l {
		out = append(append(out, t), flat(t.Args)...)
	}
	return out
}

func (m *model) typesOfData(place int) {
	d := m.p.Datas[place]
	for _, c := range d.Cons {
		for _, t := range flat(c.Args) {
			switch {
			case t.Name == "->":
			case t.Name == "Int" || t.Name == "Float":
				m.tell(place, api.ErrArity, len(t.Args) > 0)
			case t.Name[0] >= 'a':
				m.tell(place, api.ErrNone, count(d.Params, t.Name) == 0)
			default:
				of := slices.IndexFunc(m.p.Datas, func(d api.Data) bool { return d.Name == t.Name })
				m.tell(place, api.ErrNone, of < 0)
				m.tell(place, api.ErrArity, of >= 0 && len(m.p.Datas[max(of, 0)].Params) != len(t.Args))
			}
		}
	}
}

// spot is an expression or an alternative (without its E), with the names that are bound around it.
type spot struct {
	e      api.Expr
	alt    api.Alt
	around []string
}

// spots is the expression and all that is in it, each ahead of what it has.
func spots(e api.Expr, around []string) []spot {
	l := []spot{{e: e, around: around}}
	for _, part := range e.L {
		l = append(l, spots(part, slices.Concat(around, e.Names))...)
	}
	for _, a := range e.Alts {
		l = append(l, spot{alt: a})
		l = append(l, spots(a.E, slices.Concat(around, a.Names))...)
	}
	return l
}

func (m *model) def(i int) {
	place := len(m.p.Datas) + i
	var defs []string
	for _, d := range m.p.Defs {
		defs = append(defs, d.Name)
	}
	d := m.p.Defs[i]
	m.tell(place, api.ErrTwice, count(defs[:i], d.Name) > 0 || anyTwice(d.Params))
	for _, s := range spots(d.Body, slices.Concat(defs, d.Params)) {
		m.tell(place, api.ErrNone, s.e.Op == api.Var && count(s.around, s.e.Name) == 0)
		m.tell(place, api.ErrNone, s.e.Op == api.Con && m.arity(s.e.Name) < 0)
		if s.alt.Take == api.TakeCon {
			n := m.arity(s.alt.Name)
			m.tell(place, api.ErrNone, n < 0)
			m.tell(place, api.ErrArity, n >= 0 && n != len(s.alt.Names))
		}
		m.tell(place, api.ErrTwice, anyTwice(s.e.Names) || anyTwice(s.alt.Names))
	}
}

// arity is how many types the constructor has; -1, if there is none.
func (m *model) arity(name string) int {
	n := -1
	for _, d := range m.p.Datas {
		for _, c := range d.Cons {
			if c.Name == name {
				n = len(c.Args)
			}
		}
	}
	return n
}
