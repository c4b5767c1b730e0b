package gen

import (
	"gristmill/api"
	"gristmill/free"
)

// cells is variables that hold places of the arguments, none of which is evaluated for that.
func (b *body) cells(args []api.Expr) (l []string) {
	for _, e := range args {
		l = append(l, b.cell(e))
	}
	return l
}

// cell is a variable that holds such a place: a new one, but of what is bound and of a global. It takes few steps, however much e is, as nobody may need it.
func (b *body) cell(e api.Expr) string {
	switch e.Op {
	case api.Var:
		if _, ok := b.callee(e); !ok {
			return b.place(e.Name)
		}
		return b.name(e)
	case api.Con, api.Int, api.Flo:
		return b.evaluate(e)
	case api.App:
		if args, ok := b.inHand(e.L[1:]); ok {
			return b.cellOf(e, args)
		}
	}
	return b.waiting(e)
}

// inHand is the variables that hold the places to which the names are bound; false, if these are not all names for which there are such.
func (b *body) inHand(l []api.Expr) (variables []string, ok bool) {
	for _, e := range l {
		if e.Op != api.Var || !b.isBound(e.Name) || len(b.spot(e.Name).path) > 0 {
			return nil, false
		}
		variables = append(variables, b.spot(e.Name).variable)
	}
	return variables, true
}

// cellOf is a cell of an App of arguments that are in hand.
func (b *body) cellOf(e api.Expr, args []string) string {
	f, ok := b.callee(e.L[0])
	if ok && (len(args) < f.takes || f.con && len(args) == f.takes) {
		// For that nothing is evaluated.
		return b.call(f, args...)
	}
	takes := b.takesOf(f, args)
	if ok && len(args) == f.takes && len(takes) <= api.MaxList {
		return b.node("v", funTag(f.name, len(takes)), takes...)
	}
	if first, ok := b.inHand(e.L[:1]); ok {
		return b.node("v", api.Tag{Kind: api.TagApp, N: len(args)}, append(first, args...)...)
	}
	return b.waiting(e)
}

// waiting is a variable that holds the place of a node that waits for what e is, whatever that is.
func (b *body) waiting(e api.Expr) string {
	name, takes := b.own(e)
	return b.node("v", funTag(name, len(takes)), takes...)
}

// own makes a function of what e is, and answers its name and the variables that it takes.
func (b *body) own(e api.Expr) (name string, takes []string) {
	in := b.maker.body(b.from)
	var names []string
	for _, name := range free.Names(e) {
		switch {
		case b.isBound(name):
			names = append(names, name)
		case in.globals == "" && b.takesGlobals(name):
			in.globals = in.parameter("globals")
			takes = append(takes, b.globals)
		}
	}
	takes = append(takes, b.take(in, names, api.MaxList-len(takes))...)
	name = b.nameIn(b.from)
	b.function(name, in, func() { in.finish(e) })
	return name, takes
}
