package run

import (
	"gristmill/api"
	"gristmill/grin"
)

// function is a function whose variables are places in a list: its parameters, then each To on the way, as it comes.
type function struct {
	takes int
	steps []step
}

// step is a step of a function.
type step struct {
	op   int
	name string    // of a DoPrim
	is   *label    // of a DoNode
	of   *function // of a DoCall
	vals []operand
	alts []branch
	n    int64
}

// operand is a variable, as its place in the list, or, if that is below 0, a number.
type operand struct {
	slot int
	is   value
}

type branch struct {
	take  int
	is    *label
	n     int64
	steps []step
}

// reader reads a program that grin.Valid takes.
type reader struct {
	funcs  map[string]*function
	labels labels
	slots  map[string]int // of the variables of the function that is read
}

func newReader(p grin.Prog) *reader {
	r := &reader{funcs: map[string]*function{}, labels: labels{}}
	for i := range p.Funcs {
		r.funcs[p.Funcs[i].Name] = &function{takes: len(p.Funcs[i].Params)}
	}
	for i := range p.Funcs {
		f := &p.Funcs[i]
		r.slots = map[string]int{}
		for k, name := range f.Params {
			r.slots[name] = k
		}
		r.funcs[f.Name].steps = r.steps(f.Steps, len(f.Params))
	}
	return r
}

// steps reads those of a function, or of a branch, ahead of which so many variables are bound. No name is bound twice in a function, so that a branch may leave its own behind.
func (r *reader) steps(l []api.Step, bound int) []step {
	out := make([]step, len(l))
	for i := range l {
		out[i] = r.step(&l[i], bound)
		if to := l[i].To; to != "" {
			r.slots[to] = bound
			bound++
		}
	}
	return out
}

func (r *reader) step(s *api.Step, bound int) step {
	out := step{op: s.Op, name: s.Name, n: s.N, vals: make([]operand, len(s.Vals)), alts: make([]branch, len(s.Alts))}
	for i, v := range s.Vals {
		out.vals[i] = r.operand(v)
	}
	switch s.Op {
	case api.DoNode:
		out.is = r.label(s.Tag)
	case api.DoCall:
		out.of = r.funcs[s.Name]
	}
	for i := range s.Alts {
		b := &s.Alts[i]
		out.alts[i] = branch{take: b.Take, n: b.N, steps: r.steps(b.Steps, bound)}
		if b.Take == api.TakeCon {
			out.alts[i].is = r.label(b.Tag)
		}
	}
	return out
}

func (r *reader) label(t api.Tag) *label { return r.labels.of(t, r.funcs[t.Name]) }

func (r *reader) operand(v api.Val) operand {
	switch v.Kind {
	case api.ValInt:
		return operand{slot: -1, is: value{sort: whole, n: v.N}}
	case api.ValFlo:
		return operand{slot: -1, is: value{sort: float, n: v.N}}
	}
	return operand{slot: r.slots[v.Name]}
}
