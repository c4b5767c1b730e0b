package infer

import (
	"math"

	"gristmill/api"
)

// general is the level of a variable for which each use takes a new one, and of what has such in it.
const general = math.MaxInt

// generalize makes the type general in the variables that nothing around the place has in its type; there are no types, if it is too large.
func (f *finder) generalize(n *node) {
	if !fits(n) {
		f.failed = true
		return
	}
	n.mark(f.level)
}

// fits is whether the type has no more than MaxType types; one that is within itself has more.
func fits(n *node) bool {
	left := api.MaxType
	return isWithin(n, &left)
}

// isWithin is whether the type, and all in it, are no more than left. It looks no further.
func isWithin(n *node, left *int) bool {
	*left--
	if *left < 0 {
		return false
	}
	for _, arg := range n.root().args {
		if !isWithin(arg, left) {
			return false
		}
	}
	return true
}

// mark marks all in the type that is, or has, a variable of a greater level, and is whether that is so of itself.
func (n *node) mark(level int) bool {
	n = n.root()
	is := n.isVar() && n.level > level
	for _, arg := range n.args {
		if arg.mark(level) {
			is = true
		}
	}
	if is {
		n.level = general
	}
	return is
}

// use is the type of a use of what has the type n: an instance, if that is general, else n itself.
func (f *finder) use(n *node) *node {
	return f.copy(n, map[*node]*node{})
}

// copy is the type with new variables in place of the general ones, those which it has met in vars.
func (f *finder) copy(n *node, vars map[*node]*node) *node {
	n = n.root()
	if n.level != general {
		return n
	}
	if n.isVar() {
		if vars[n] == nil {
			vars[n] = f.variable()
		}
		return vars[n]
	}
	out := &node{name: n.name, args: make([]*node, len(n.args)), level: f.level}
	for i, arg := range n.args {
		out.args[i] = f.copy(arg, vars)
	}
	return out
}
