package mean

// value is what an expression is evaluated to: a whole, a float, a *tree or a *function. None (nil) is where the run stops: at a fault, or as it never ends.
type value any

// whole is a whole number.
type whole int64

// float is a float, as its bits.
type float uint64

// tree is a constructor and the cells of what it has.
type tree struct {
	name  string
	cells []*cell
}

// function lacks some of the cells that its maker takes: it has those ahead of them.
type function struct {
	of     *maker
	around *frame // what is bound around a Fn
	cells  []*cell
}

// maker makes something of as many cells as it takes: what the body is with its names so, or, without a body, a constructor's tree.
type maker struct {
	takes int
	name  string // a constructor's
	body  form
}

// cell is an expression that waits, with what is bound around it, or, once it was evaluated, its value. While it is being evaluated it has neither.
type cell struct {
	what   form
	around *frame
	is     value
}

// frame is the cells to which names are bound in one place, and what is bound around that.
type frame struct {
	cells []*cell
	up    *frame
}
