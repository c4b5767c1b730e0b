package scope

import (
	"slices"

	"gristmill/api"
	"gristmill/syn"
)

// known is what may be named at a place of a program.
type known struct {
	types map[string]int // how many parts each type has, those of the language among them
	cons  map[string]int // how many types each constructor has
	bound map[string]int // how many things around the place bind the name; a definition is around every place
}

// Check is the first error of the names of a program; nil, if each that is used is there, as it is used, and no place has two of one name.
func Check(p api.Program) error {
	if err := syn.Valid(p); err != nil {
		return err
	}
	k := known{types: map[string]int{"->": 2, "Int": 0, "Float": 0}, cons: map[string]int{}, bound: map[string]int{}}
	for i, d := range p.Datas {
		if err := k.addData(d); err != nil {
			return &api.At{Pos: i, Err: err}
		}
	}
	for i, d := range p.Datas {
		if err := k.checkCons(d); err != nil {
			return &api.At{Pos: i, Err: err}
		}
	}
	for _, d := range p.Defs {
		k.bound[d.Name]++
	}
	for i, d := range p.Defs {
		// A definition may be used ahead of its place: that it is the second of its name is told only there.
		first, _ := Def(p, d.Name)
		if err := k.checkDef(d, first < i); err != nil {
			return &api.At{Pos: len(p.Datas) + i, Err: err}
		}
	}
	if i, ok := Def(p, "main"); !ok || len(p.Defs[i].Params) > 0 {
		return api.ErrMain
	}
	return nil
}

// hasTwice is whether a name stands more than once in the list.
func hasTwice(l []string) bool {
	for i, name := range l {
		if slices.Contains(l[:i], name) {
			return true
		}
	}
	return false
}

// add puts a name that stands with n parts into the table; ErrTwice, if it was there.
func add(table map[string]int, name string, n int) error {
	if _, ok := table[name]; ok {
		return api.ErrTwice
	}
	table[name] = n
	return nil
}

// checkUse is the error of a name that is used with n parts.
func checkUse(table map[string]int, name string, n int) error {
	has, ok := table[name]
	switch {
	case !ok:
		return api.ErrNone
	case has != n:
		return api.ErrArity
	}
	return nil
}

// addData makes the data and its constructors known.
func (k known) addData(d api.Data) error {
	if err := add(k.types, d.Name, len(d.Params)); err != nil {
		return err
	}
	if hasTwice(d.Params) {
		return api.ErrTwice
	}
	for _, c := range d.Cons {
		if err := add(k.cons, c.Name, len(c.Args)); err != nil {
			return err
		}
	}
	return nil
}

// checkCons is the first error of the types that the data's constructors have.
func (k known) checkCons(d api.Data) error {
	for _, c := range d.Cons {
		if err := k.checkTypes(c.Args, d.Params); err != nil {
			return err
		}
	}
	return nil
}

// checkTypes is the first error of the types, each ahead of its Args. That a parameter has no Args, syn.Valid has told.
func (k known) checkTypes(l []api.Type, params []string) error {
	for _, t := range l {
		if slices.Contains(params, t.Name) {
			continue
		}
		if err := checkUse(k.types, t.Name, len(t.Args)); err != nil {
			return err
		}
		if err := k.checkTypes(t.Args, params); err != nil {
			return err
		}
	}
	return nil
}

// bind puts more things around the place that bind the names; by -1 it takes one from around it.
func (k known) bind(names []string, more int) {
	for _, name := range names {
		k.bound[name] += more
	}
}

// checkDef is the first error of the definition; again is whether one of its name was there.
func (k known) checkDef(d api.Def, again bool) error {
	if again || hasTwice(d.Params) {
		return api.ErrTwice
	}
	k.bind(d.Params, 1)
	defer k.bind(d.Params, -1)
	return k.checkExpr(d.Body)
}

// checkExpr is the first error of the expression and its parts, it ahead of them. Only what binds its names in all its parts, a Fn or a Let, has Names: of others syn.Valid has told.
func (k known) checkExpr(e api.Expr) error {
	_, isCons := k.cons[e.Name]
	switch {
	case e.Op == api.Var && k.bound[e.Name] == 0, e.Op == api.Con && !isCons:
		return api.ErrNone
	case hasTwice(e.Names):
		return api.ErrTwice
	}
	k.bind(e.Names, 1)
	defer k.bind(e.Names, -1)
	for _, part := range e.L {
		if err := k.checkExpr(part); err != nil {
			return err
		}
	}
	for _, a := range e.Alts {
		if err := k.checkAlt(a); err != nil {
			return err
		}
	}
	return nil
}

// checkAlt is the first error of the alternative, what it takes ahead of its E. Only a constructor has Names.
func (k known) checkAlt(a api.Alt) error {
	if a.Take == api.TakeCon {
		if err := checkUse(k.cons, a.Name, len(a.Names)); err != nil {
			return err
		}
	}
	if hasTwice(a.Names) {
		return api.ErrTwice
	}
	k.bind(a.Names, 1)
	defer k.bind(a.Names, -1)
	return k.checkExpr(a.E)
}
