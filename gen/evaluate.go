package gen

import (
	"gristmill/api"
	"gristmill/num"
)

// finish does what e is, and returns it.
func (b *body) finish(e api.Expr) {
	before := len(b.order)
	switch e = b.ahead(e); e.Op {
	case api.Fail:
		b.add(api.Step{Op: api.DoFail, N: e.N})
	case api.Case:
		b.choose(e)
	default:
		b.ret(b.evaluate(e))
	}
	b.unbind(before)
}

// ahead does what is done ahead of what e is in the end, and answers that. The names that are bound on the way stay so.
func (b *body) ahead(e api.Expr) api.Expr {
	for {
		switch {
		case e.Op == api.Let:
			b.let(e.Names, e.L)
			e = e.L[len(e.Names)]
		case e.Op == api.Prim && e.Name == "seq":
			b.evaluate(e.L[0])
			e = e.L[1]
		case e.Op == api.Case && e.Alts[0].Take == api.TakeAny:
			b.evaluate(e.L[0])
			e = e.Alts[0].E
		default:
			return e
		}
	}
}

// evaluate does what e is: a variable that holds the place of that.
func (b *body) evaluate(e api.Expr) (is string) {
	before := len(b.order)
	switch e = b.ahead(e); e.Op {
	case api.Var, api.Con:
		is = b.name(e)
	case api.Int:
		is = b.number("v", api.TagInt, b.bare(e))
	case api.Flo:
		is = b.number("v", api.TagFlo, b.bare(e))
	case api.App:
		is = b.application(e)
	case api.Prim:
		is = b.prim(e)
	default:
		// A step that ends can't stand within others, but in a function of its own.
		name, takes := b.own(e)
		is = b.to("v", api.Step{Op: api.DoCall, Name: name, Vals: values(takes...)})
	}
	b.unbind(before)
	return is
}

// name is what a Var or a Con is.
func (b *body) name(e api.Expr) string {
	f, ok := b.callee(e)
	switch {
	case ok:
		return b.call(f)
	case e.Op == api.Con:
		return b.node("v", conTag(e.Name, 0))
	}
	return b.to(e.Name, api.Step{Op: api.DoEval, Vals: values(b.place(e.Name))})
}

// prim is a node of what a Prim is.
func (b *body) prim(e api.Expr) string {
	if num.Floaty(e.Name) {
		return b.number("v", api.TagFlo, b.bare(e))
	}
	return b.number("v", api.TagInt, b.bare(e))
}

// bare does what e is: the number that it is.
func (b *body) bare(e api.Expr) (is api.Val) {
	before := len(b.order)
	switch e = b.ahead(e); e.Op {
	case api.Int:
		is = api.Val{Kind: api.ValInt, N: e.N}
	case api.Flo:
		is = api.Val{Kind: api.ValFlo, N: e.N}
	case api.Prim:
		var l []api.Val
		for _, part := range e.L {
			l = append(l, b.bare(part))
		}
		is = value(b.to("n", api.Step{Op: api.DoPrim, Name: e.Name, Vals: l}))
	default:
		is = value(b.to("n", api.Step{Op: api.DoOpen, Vals: values(b.evaluate(e))}))
	}
	b.unbind(before)
	return is
}
