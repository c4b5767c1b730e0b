package mean

import "gristmill/api"

// form is an expression in which names are places. eval is its value, behind its step.
type form interface {
	eval(m *machine, around *frame) value
}

// ready is what has its value as it stands.
type ready struct{ is value }

func (f ready) eval(*machine, *frame) value { return f.is }

// bound is a name that is bound so many frames further out, there at that place.
type bound struct{ up, at int }

func (f bound) eval(m *machine, around *frame) value { return m.force(f.cell(around)) }

func (f bound) cell(around *frame) *cell {
	for range f.up {
		around = around.up
	}
	return around.cells[f.at]
}

// definition is a name of one: a function, or, if it takes nothing, one cell for the whole run.
type definition struct {
	of   *maker
	cell cell
}

func (f *definition) eval(m *machine, _ *frame) value {
	if f.of.takes > 0 {
		return &function{of: f.of}
	}
	return m.force(&f.cell)
}

// fn is a Fn.
type fn struct{ of *maker }

func (f fn) eval(_ *machine, around *frame) value { return &function{of: f.of, around: around} }

// app is an App.
type app struct {
	first form
	args  []form
}

func (f app) eval(m *machine, around *frame) value {
	first := m.evaluate(f.first, around)
	cells := make([]*cell, len(f.args))
	for i, arg := range f.args {
		cells[i] = cellOf(arg, around)
	}
	return m.apply(first, cells)
}

// cellOf is a cell for an argument. What is bound around it has one, so that it is evaluated once, whoever needs it.
func cellOf(arg form, around *frame) *cell {
	if f, ok := arg.(bound); ok {
		return f.cell(around)
	}
	return &cell{what: arg, around: around}
}

// let is a Let.
type let struct {
	parts []form // what each name is
	in    form
}

func (f let) eval(m *machine, around *frame) value {
	inner := &frame{up: around}
	for _, part := range f.parts {
		inner.cells = append(inner.cells, &cell{what: part, around: inner})
	}
	return m.evaluate(f.in, inner)
}

// choice is a Case.
type choice struct {
	about form
	alts  []alt
}

func (f choice) eval(m *machine, around *frame) value {
	about := m.evaluate(f.about, around)
	if about == nil {
		return nil
	}
	for _, a := range f.alts {
		if a.takes(about) {
			return m.evaluate(a.is, a.within(about, around))
		}
	}
	return m.fail(api.NoMatch)
}

// alt is an Alt.
type alt struct {
	take  int
	name  string // the constructor's
	n     int64
	binds bool // whether it has names
	is    form
}

func (a alt) takes(v value) bool {
	switch a.take {
	case api.TakeCon:
		t, ok := v.(*tree)
		return ok && t.name == a.name
	case api.TakeInt:
		return v == whole(a.n)
	}
	return true
}

// within is what is bound in the alternative that takes the value.
func (a alt) within(v value, around *frame) *frame {
	if t, ok := v.(*tree); ok && a.binds {
		return &frame{cells: t.cells, up: around}
	}
	return around
}

// fault is a Fail.
type fault struct{ n int64 }

func (f fault) eval(m *machine, _ *frame) value { return m.fail(f.n) }
