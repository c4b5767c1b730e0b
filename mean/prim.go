package mean

import (
	"gristmill/api"
	"gristmill/flo"
	"gristmill/num"
)

// seq is the Prim that is its second argument, behind the first.
type seq struct{ first, second form }

func (f seq) eval(m *machine, around *frame) value {
	if m.evaluate(f.first, around) == nil {
		return nil
	}
	return m.evaluate(f.second, around)
}

// ofOne is a Prim of one number.
type ofOne struct {
	name string
	arg  form
}

func (f ofOne) eval(m *machine, around *frame) value {
	switch arg := m.evaluate(f.arg, around).(type) {
	case whole:
		if f.name == "float" {
			return float(flo.OfInt(int64(arg)))
		}
	case float:
		if f.name == "whole" {
			return m.toWhole(arg)
		}
	}
	return nil
}

func (m *machine) toWhole(a float) value {
	n, ok := flo.ToInt(uint64(a))
	if !ok {
		return m.fail(api.NoInt)
	}
	return whole(n)
}

// ofTwo is a Prim of two numbers.
type ofTwo struct {
	name string
	a, b form
}

func (f ofTwo) eval(m *machine, around *frame) value {
	a := m.evaluate(f.a, around)
	if a == nil {
		return nil
	}
	// Both come ahead of whether they are of its sort: the second may be a fault.
	switch b := m.evaluate(f.b, around).(type) {
	case whole:
		if a, ok := a.(whole); ok {
			return m.ofWholes(f.name, a, b)
		}
	case float:
		if a, ok := a.(float); ok {
			return ofFloats(f.name, a, b)
		}
	}
	return nil
}

// ofWholes is what the prim is of whole numbers; none, if it is one of floats.
func (m *machine) ofWholes(name string, a, b whole) value {
	n, fault, ok := num.Do(name, int64(a), int64(b))
	switch {
	case !ok:
		return nil
	case fault != 0:
		return m.fail(int64(fault))
	}
	return whole(n)
}

// ofFloats is what the prim is of floats; none, if it is one of whole numbers.
func ofFloats(name string, a, b float) value {
	if c, ok := flo.Do(name, uint64(a), uint64(b)); ok {
		return float(c)
	}
	is, ok := flo.Is(name, uint64(a), uint64(b))
	switch {
	case !ok:
		return nil
	case is:
		return whole(1)
	}
	return whole(0)
}
