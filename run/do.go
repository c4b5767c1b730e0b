package run

import (
	"gristmill/api"
	"gristmill/flo"
	"gristmill/num"
)

// do does the steps of a function, whose variables begin at base, and is what it returns.
func (m *machine) do(steps []step, base int) value {
	for {
		last := len(steps) - 1
		for i := range last {
			m.inner(&steps[i], base)
		}
		m.spend()
		s := &steps[last]
		switch s.op {
		case api.DoRet:
			return m.val(s, 0, base)
		case api.DoFail:
			fail(faultOf(s.n))
		}
		steps = choose(m.val(s, 0, base), s.alts)
	}
}

// faultOf is the fault of a DoFail: no program names the one for what no alternative takes.
func faultOf(n int64) int64 {
	if n == 1<<31 {
		return api.NoMatch
	}
	return n
}

// choose is the steps of the first branch that takes the value.
func choose(v value, alts []branch) []step {
	for i := range alts {
		b := &alts[i]
		if b.take == api.TakeAny || b.take == api.TakeCon && v.sort == place && b.is == v.at.is || b.take == api.TakeInt && v.sort == whole && b.n == v.n {
			return b.steps
		}
	}
	panic(stop{how: api.Bad})
}

// val is the step's i-th value.
func (m *machine) val(s *step, i, base int) value {
	v := &s.vals[i]
	if v.slot < 0 {
		return v.is
	}
	return m.vars[base+v.slot]
}

// at is the place that the step's i-th value has to be.
func (m *machine) at(s *step, i, base int) *node { return m.val(s, i, base).place() }

// places is the places that the step's values have to be, from the first one on.
func (m *machine) places(s *step, first, base int) []*node {
	l := make([]*node, 0, len(s.vals)-first)
	for i := first; i < len(s.vals); i++ {
		l = append(l, m.at(s, i, base))
	}
	return l
}

// inner does a step that does not end.
func (m *machine) inner(s *step, base int) {
	m.spend()
	if s.op == api.DoUpdate {
		first, second := m.at(s, 0, base), m.at(s, 1, base)
		first.become(second)
		return
	}
	is := m.answer(s, base)
	m.vars = append(m.vars, is)
}

// answer is what goes to the step's variable.
func (m *machine) answer(s *step, base int) value {
	switch s.op {
	case api.DoNode:
		return placeOf(m.node(s, base))
	case api.DoFetch:
		at := m.at(s, 0, base)
		must(!at.is.waits)
		return placeOf(at)
	case api.DoCall:
		for i := range s.vals {
			m.vars = append(m.vars, m.val(s, i, base))
		}
		return m.call(s.of)
	case api.DoEval:
		return placeOf(m.evaluate(m.at(s, 0, base)))
	case api.DoApply:
		return placeOf(m.apply(m.at(s, 0, base), m.places(s, 1, base)))
	case api.DoPrim:
		return prim(s.name, m.val(s, 0, base), m.val(s, len(s.vals)-1, base))
	case api.DoOpen:
		at := m.at(s, 0, base)
		must(at.is.bare)
		return at.bare()
	}
	return field(m.at(s, 0, base), s.n)
}

// node makes a new one.
func (m *machine) node(s *step, base int) *node {
	if !s.is.bare {
		return &node{is: s.is, fields: m.places(s, 0, base)}
	}
	at, v := &node{is: s.is}, m.val(s, 0, base)
	at.n = v.n
	must(v == at.bare())
	return at
}

// field is the n-th field of a node.
func field(at *node, n int64) value {
	if at.is.bare {
		must(n == 0)
		return at.bare()
	}
	must(n < int64(len(at.fields)))
	return placeOf(at.fields[n])
}

// prim is what the prim is of bare numbers; of one number a and b are the same.
func prim(name string, a, b value) value {
	switch name {
	case "float":
		must(a.sort == whole)
		return value{sort: float, n: int64(flo.OfInt(a.n))}
	case "whole":
		must(a.sort == float)
		return toWhole(a)
	}
	must(a.sort == b.sort)
	if a.sort == whole {
		return ofWholes(name, a.n, b.n)
	}
	must(a.sort == float)
	return ofFloats(name, uint64(a.n), uint64(b.n))
}

func toWhole(a value) value {
	n, ok := flo.ToInt(uint64(a.n))
	if !ok {
		fail(api.NoInt)
	}
	return value{sort: whole, n: n}
}

func ofWholes(name string, a, b int64) value {
	n, fault, ok := num.Do(name, a, b)
	must(ok)
	if fault != 0 {
		fail(int64(fault))
	}
	return value{sort: whole, n: n}
}

func ofFloats(name string, a, b uint64) value {
	if c, ok := flo.Do(name, a, b); ok {
		return value{sort: float, n: int64(c)}
	}
	is, ok := flo.Is(name, a, b)
	must(ok)
	if is {
		return value{sort: whole, n: 1}
	}
	return value{sort: whole}
}
