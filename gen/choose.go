package gen

import (
	"slices"

	"gristmill/api"
	"gristmill/free"
)

// noMatch is what a step fails with where no alternative takes what is looked at.
const noMatch = 1 << 31

// choose does what a Case is whose first alternative does not take anything.
func (b *body) choose(e api.Expr) {
	alts := alternatives(e.Alts)
	if alts[0].Take == api.TakeInt {
		b.add(b.choice(b.bare(e.L[0]), alts))
	} else {
		b.add(b.choice(value(b.evaluate(e.L[0])), alts))
	}
}

// alternatives is those that may take what is looked at, the last of which takes anything.
func alternatives(l []api.Alt) (alts []api.Alt) {
	for _, a := range l {
		if a.Take == api.TakeAny {
			return append(alts, a)
		}
		// What the first one takes is no number, or a number: in a right program so it is of all.
		if a.Take == l[0].Take {
			alts = append(alts, a)
		}
	}
	return append(alts, api.Alt{Take: api.TakeAny, E: api.Expr{Op: api.Fail, N: noMatch}})
}

// choice is a step for the alternatives. Those that are too many are within the last one.
func (b *body) choice(v api.Val, alts []api.Alt) api.Step {
	s := api.Step{Op: api.DoCase, Vals: []api.Val{v}}
	for i, a := range alts {
		if i == api.MaxList-1 && i < len(alts)-1 {
			s.Alts = append(s.Alts, api.Branch{Take: api.TakeAny, Steps: []api.Step{b.choice(v, alts[i:])}})
			break
		}
		s.Alts = append(s.Alts, b.branch(v, a))
	}
	return s
}

// branch is that of an alternative.
func (b *body) branch(v api.Val, a api.Alt) api.Branch {
	ahead, before := b.steps, len(b.order)
	b.steps = nil
	out := api.Branch{Take: a.Take, N: a.N}
	if a.Take == api.TakeCon {
		out.Tag = conTag(a.Name, len(a.Names))
		b.bindFields(v.Name, a)
	}
	b.finish(a.E)
	out.Steps = b.steps
	b.steps = ahead
	b.unbind(before)
	return out
}

// bindFields binds the names of an alternative, those that it needs.
func (b *body) bindFields(of string, a api.Alt) {
	needed := free.Names(a.E)
	for i, name := range a.Names {
		if slices.Contains(needed, name) {
			b.bind(name, spot{variable: b.field(name, of, i)})
		}
	}
}
