package run

import (
	"slices"

	"gristmill/api"
	"gristmill/flo"
)

// machine is a run: its store is the nodes that can be come to from the variables.
type machine struct {
	labels labels
	fuel   int64
	left   int64   // how many steps there may still be
	open   int     // how many calls, evaluations and applications were begun and not ended
	looked int     // how many nodes were looked at
	vars   []value // what the variables hold of all functions that were called and have not returned, the last one's behind the others'
}

// stop goes up by panic, and ends the run: with a fault, if it is Ended.
type stop struct {
	how   int
	fault int64
}

// fail ends the run with a fault.
func fail(n int64) { panic(stop{how: api.Ended, fault: n}) }

// run is what the run of main ends with.
func (m *machine) run(main *function, depth int) (out Out) {
	defer func() {
		if s, ok := recover().(stop); ok {
			out = m.stopped(s)
		}
	}()
	is := m.look(m.returned(main, nil, nil), depth)
	return Out{How: api.Ended, Obs: is, Steps: m.fuel - m.left}
}

// stopped is what a run ends with that was stopped.
func (m *machine) stopped(s stop) Out {
	switch s.how {
	case api.Ended:
		return Out{How: api.Ended, Obs: api.Obs{Kind: api.SeenFault, N: s.fault}, Steps: m.fuel - m.left}
	case api.OutOfFuel:
		return Out{How: api.OutOfFuel, Steps: m.fuel}
	}
	return Out{How: api.Bad, Steps: m.fuel - m.left}
}

// spend takes a step.
func (m *machine) spend() {
	if m.left == 0 {
		panic(stop{how: api.OutOfFuel})
	}
	m.left--
}

// begin begins a call, an evaluation or an application; end ends it.
func (m *machine) begin() {
	if m.open == api.MaxStack {
		panic(stop{how: api.OutOfFuel})
	}
	m.open++
}

func (m *machine) end() { m.open-- }

// must stops a run in which a step is not as it has to be.
func must(is bool) {
	if !is {
		panic(stop{how: api.Bad})
	}
}

// place is the place that the value has to be.
func (v value) place() *node {
	must(v.sort == place)
	return v.at
}

// call is what the function returns, with the arguments that stand last among the variables.
func (m *machine) call(f *function) value {
	m.begin()
	base := len(m.vars) - f.takes
	is := m.do(f.steps, base)
	m.vars = m.vars[:base]
	m.end()
	return is
}

// returned is the place that the function returns, with the places of two lists, evaluated.
func (m *machine) returned(f *function, args, more []*node) *node {
	for _, at := range args {
		m.vars = append(m.vars, placeOf(at))
	}
	for _, at := range more {
		m.vars = append(m.vars, placeOf(at))
	}
	return m.evaluate(m.call(f).place())
}

// evaluate is the place, behind its evaluation.
func (m *machine) evaluate(at *node) *node {
	m.begin()
	if at.is.waits {
		m.force(at)
	}
	m.end()
	return at
}

// force evaluates a place whose node waits.
func (m *machine) force(at *node) {
	if at.under {
		panic(stop{how: api.OutOfFuel})
	}
	at.under = true
	is, fields := at.is, at.fields
	if is.tag.Kind == api.TagFun {
		at.become(m.returned(is.of, fields, nil))
		return
	}
	at.become(m.apply(m.evaluate(fields[0]), fields[1:]))
}

// apply is the place of what the function at a place is of the others; there is one at least.
func (m *machine) apply(f *node, args []*node) *node {
	must(f.is.tag.Kind == api.TagPap)
	m.begin()
	lacks := f.is.tag.N
	var is *node
	if len(args) < lacks {
		is = m.lacking(f, args)
	} else {
		is = m.returned(f.is.of, f.fields, args[:lacks])
		if len(args) > lacks {
			is = m.apply(is, args[lacks:])
		}
	}
	m.end()
	return is
}

// lacking is a function that has these too, and lacks as many less.
func (m *machine) lacking(f *node, args []*node) *node {
	t := f.is.tag
	t.N -= len(args)
	return &node{is: m.labels.of(t, f.is.of), fields: slices.Concat(f.fields, args)}
}

// look is what the place is observed as.
func (m *machine) look(at *node, depth int) api.Obs {
	if m.looked == api.MaxSize {
		panic(stop{how: api.OutOfFuel})
	}
	m.looked++
	switch at.is.tag.Kind {
	case api.TagInt:
		return api.Obs{Kind: api.SeenInt, N: at.n}
	case api.TagFlo:
		return api.Obs{Kind: api.SeenFlo, N: int64(flo.Canon(uint64(at.n)))}
	case api.TagPap:
		return api.Obs{Kind: api.SeenFn}
	}
	if depth == 0 {
		return api.Obs{Kind: api.SeenCut}
	}
	o := api.Obs{Kind: api.SeenTree, Name: at.is.tag.Name}
	for _, field := range at.fields {
		o.L = append(o.L, m.look(m.evaluate(field), depth-1))
	}
	return o
}
