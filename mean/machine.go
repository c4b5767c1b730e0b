package mean

import (
	"slices"

	"gristmill/api"
)

// machine is a run: what it may still take, and what it ended with.
type machine struct {
	left    int64 // how many steps there may still be
	open    int   // how many evaluations were begun and not ended
	looked  int   // how many values were looked at
	faulted bool
	fault   int64
}

// fail stops the run with a fault.
func (m *machine) fail(n int64) value {
	m.faulted, m.fault = true, n
	return nil
}

// evaluate takes the step of an expression, and is its value. The evaluation of what an expression is in the end, such as a function's body, is within its own: there are no more of these at a time than MaxStack, and so no more calls within one another than Go has room for.
func (m *machine) evaluate(what form, around *frame) value {
	if m.left == 0 || m.open == api.MaxStack {
		return nil
	}
	m.left--
	m.open++
	is := what.eval(m, around)
	m.open--
	return is
}

// force is the value of the cell.
func (m *machine) force(c *cell) value {
	if c.what == nil {
		return c.is // none, while it is being evaluated: it never ends
	}
	what, around := c.what, c.around
	// What the value does not need is not kept.
	c.what, c.around = nil, nil
	c.is = m.evaluate(what, around)
	return c.is
}

// apply is what the value is of the cells; none, if there are some for what is no function.
func (m *machine) apply(v value, cells []*cell) value {
	for len(cells) > 0 {
		f, ok := v.(*function)
		if !ok {
			return nil
		}
		n := min(len(cells), f.of.takes-len(f.cells))
		v = m.call(f, slices.Concat(f.cells, cells[:n]))
		cells = cells[n:]
	}
	return v
}

// call is what the function is with the cells: a function still, if it lacks more.
func (m *machine) call(f *function, cells []*cell) value {
	switch {
	case len(cells) < f.of.takes:
		return &function{of: f.of, around: f.around, cells: cells}
	case f.of.body == nil:
		return &tree{name: f.of.name, cells: cells}
	}
	return m.evaluate(f.of.body, &frame{cells: cells, up: f.around})
}

// look is what the cell is observed as; false: the run has stopped.
func (m *machine) look(c *cell, depth int) (api.Obs, bool) {
	v := m.force(c)
	if v == nil || m.looked == api.MaxSize {
		return api.Obs{}, false
	}
	m.looked++
	switch v := v.(type) {
	case whole:
		return api.Obs{Kind: api.SeenInt, N: int64(v)}, true
	case float:
		return api.Obs{Kind: api.SeenFlo, N: int64(v)}, true
	case *tree:
		return m.lookInto(v, depth)
	}
	return api.Obs{Kind: api.SeenFn}, true
}

// lookInto is what the tree is observed as; false: the run has stopped.
func (m *machine) lookInto(t *tree, depth int) (api.Obs, bool) {
	if depth == 0 {
		return api.Obs{Kind: api.SeenCut}, true
	}
	o := api.Obs{Kind: api.SeenTree, Name: t.name}
	for _, c := range t.cells {
		part, ok := m.look(c, depth-1)
		if !ok {
			return api.Obs{}, false
		}
		o.L = append(o.L, part)
	}
	return o, true
}
