package infer

// pair is two types that have to be the same.
type pair struct{ a, b *node }

// unify makes the types the same, if they can be. Whether one is now within itself, isFinite tells.
func (f *finder) unify(a, b *node) {
	todo := []pair{{a, b}}
	for len(todo) > 0 && !f.failed {
		last := len(todo) - 1
		left := f.join(todo[last].a.root(), todo[last].b.root())
		todo = append(todo[:last], left...)
	}
}

// join makes two roots stand for the same, but for their Args: these are what is left to be made the same. Types of one name have as many.
func (f *finder) join(a, b *node) (left []pair) {
	if a == b {
		return nil
	}
	if a.isVar() {
		a, b = b, a
	}
	if !b.isVar() && a.name != b.name {
		f.failed = true
		return nil
	}
	lower(a, b.level)
	if b.isVar() {
		f.became = append(f.became, a)
	}
	b.up = a
	for i, arg := range b.args {
		left = append(left, pair{a.args[i], arg})
	}
	return left
}

// lower makes no variable in the type be of a greater level. It has no call within a call, as the way down may go through as many nodes as there are.
func lower(n *node, level int) {
	todo := []*node{n}
	for len(todo) > 0 {
		last := len(todo) - 1
		n = todo[last].root()
		todo = todo[:last]
		if n.level > level {
			n.level = level
			todo = append(todo, n.args...)
		}
	}
}

// isFinite is whether nothing is within itself: something that a variable became since the last look would be on the way. It has no call within a call, as lower has none.
func (f *finder) isFinite() bool {
	open, done := f.looks+1, f.looks+2
	f.looks = done
	todo := f.became
	f.became = nil
	for len(todo) > 0 {
		last := len(todo) - 1
		n := todo[last].root()
		if n.seen >= open {
			// All in it is done: it was put behind n.
			n.seen = done
			todo = todo[:last]
			continue
		}
		n.seen = open
		for _, arg := range n.args {
			arg = arg.root()
			if arg.seen == open {
				return false
			}
			todo = append(todo, arg)
		}
	}
	return true
}
