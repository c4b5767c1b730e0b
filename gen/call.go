package gen

import "gristmill/api"

// callee is what is applied, where it is known how many arguments it takes: one at least.
type callee struct {
	name  string
	takes int
	con   bool
	needs bool // it takes the globals, too
}

// callee is what e is, if that is a constructor or a definition that takes something.
func (b *body) callee(e api.Expr) (callee, bool) {
	f := callee{name: e.Name}
	switch {
	case e.Op == api.Con:
		f.takes, f.con = b.cons[e.Name], true
	case e.Op == api.Var && !b.isBound(e.Name):
		f.takes, f.needs = b.defs[e.Name].takes, b.defs[e.Name].needs
	}
	return f, f.takes > 0
}

// call does what the callee is of arguments, which are no more than it takes.
func (b *body) call(f callee, args ...string) string {
	lacks := f.takes - len(args)
	switch {
	case f.con && lacks > 0:
		return b.node("v", api.Tag{Kind: api.TagPap, Name: b.constructor(f.name), N: lacks}, args...)
	case f.con:
		return b.node("v", conTag(f.name, f.takes), args...)
	case lacks > 0:
		return b.node("v", api.Tag{Kind: api.TagPap, Name: f.name, N: lacks}, b.takesOf(f, args)...)
	}
	return b.to("v", api.Step{Op: api.DoCall, Name: f.name, Vals: values(b.takesOf(f, args)...)})
}

// takesOf is all that the callee's function takes of arguments.
func (b *body) takesOf(f callee, args []string) []string {
	if !f.needs {
		return args
	}
	return append([]string{b.globals}, args...)
}

// application does what an App is.
func (b *body) application(e api.Expr) (is string) {
	f, ok := b.callee(e.L[0])
	args := e.L[1:]
	if ok {
		n := min(len(args), f.takes)
		is = b.call(f, b.cells(args[:n])...)
		args = args[n:]
	} else {
		is = b.evaluate(e.L[0])
	}
	if len(args) == 0 {
		return is
	}
	return b.to("v", api.Step{Op: api.DoApply, Vals: append(values(is), values(b.cells(args)...)...)})
}
