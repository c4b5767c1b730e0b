package types

import (
	"slices"

	"gristmill/api"
)

// Unify is what the variables become, in the most general way, so that a and b are the same, two by two: names, rising, and the type for each.
func Unify(a, b []api.Type) ([]string, []api.Type, error) {
	if len(a) != len(b) {
		return nil, nil, api.ErrMany
	}
	g := graph{vars: map[string]int{}}
	// All of a ahead of b: of two variables the elder node stays.
	nodesA, nodesB := g.addAll(a), g.addAll(b)
	if !g.join(nodesA, nodesB) {
		return nil, nil, api.ErrType
	}
	order, ok := g.order()
	if !ok {
		return nil, nil, api.ErrType
	}
	names := g.bound()
	if g.isLarge(names, order) {
		return nil, nil, api.ErrMany
	}
	var to []api.Type
	for _, name := range names {
		to = append(to, g.typeOf(g.vars[name]))
	}
	return names, to, nil
}

// graph is types as nodes, so that what becomes the same is shared: written out it could be very large.
type graph struct {
	nodes []node
	vars  map[string]int // the node of each variable
}

// node is a variable, all of that name being one, or another type, each being one of its own.
type node struct {
	name  string
	isVar bool
	args  []int // the nodes of its Args
	up    int   // a node that it becomes the same as; itself, if it stands for all that do
}

func (g *graph) addAll(l []api.Type) (nodes []int) {
	for _, t := range l {
		nodes = append(nodes, g.add(t))
	}
	return nodes
}

// add is the node of the type.
func (g *graph) add(t api.Type) int {
	if i, ok := g.vars[t.Name]; ok {
		return i
	}
	i := len(g.nodes)
	g.nodes = append(g.nodes, node{name: t.Name, isVar: isVar(t), up: i})
	if isVar(t) {
		g.vars[t.Name] = i
		return i
	}
	args := g.addAll(t.Args)
	g.nodes[i].args = args
	return i
}

// root is the node that stands for all that become the same as it. It makes the way there shorter for the next time.
func (g *graph) root(i int) int {
	for g.nodes[i].up != i {
		g.nodes[i].up = g.nodes[g.nodes[i].up].up
		i = g.nodes[i].up
	}
	return i
}

// join makes the nodes of a and b become the same, two by two, and their Args; false, if some can't. Whether one is now within itself, order tells. The lists are used up.
func (g *graph) join(a, b []int) bool {
	for len(a) > 0 {
		last := len(a) - 1
		stays, goes := g.root(a[last]), g.root(b[last])
		a, b = a[:last], b[:last]
		if stays == goes {
			continue
		}
		if g.isAhead(goes, stays) {
			stays, goes = goes, stays
		}
		to, from := g.nodes[stays], g.nodes[goes]
		if !from.isVar && (from.name != to.name || len(from.args) != len(to.args)) {
			return false
		}
		g.nodes[goes].up = stays
		if !from.isVar {
			a, b = append(a, to.args...), append(b, from.args...)
		}
	}
	return true
}

// isAhead is whether it is i that stands for both: what is no variable ahead of a variable, else the elder one.
func (g *graph) isAhead(i, other int) bool {
	if g.nodes[i].isVar != g.nodes[other].isVar {
		return g.nodes[other].isVar
	}
	return i < other
}

// order is the roots, each behind those of its Args; false, if one is within itself. It has no call within a call, as the way from a type to its Args may go through as many nodes as there are.
func (g *graph) order() (order []int, ok bool) {
	roots := 0
	waits := make([]int, len(g.nodes))   // how many of its Args are not in order
	users := make([][]int, len(g.nodes)) // those of whose Args it is the root, as often as it is
	for i, n := range g.nodes {
		if n.up != i {
			continue
		}
		roots++
		waits[i] = len(n.args)
		if len(n.args) == 0 {
			order = append(order, i)
		}
		for _, arg := range n.args {
			k := g.root(arg)
			users[k] = append(users[k], i)
		}
	}
	for done := 0; done < len(order); done++ {
		for _, i := range users[order[done]] {
			waits[i]--
			if waits[i] == 0 {
				order = append(order, i)
			}
		}
	}
	return order, len(order) == roots
}

// bound is the names of the variables that become something, rising.
func (g *graph) bound() (names []string) {
	for i, n := range g.nodes {
		if n.isVar && n.up != i {
			names = append(names, n.name)
		}
	}
	slices.Sort(names)
	return names
}

// isLarge is whether what the names become is more than MaxSize types in all; order is all roots, each behind those of its Args.
func (g *graph) isLarge(names []string, order []int) bool {
	sizes := make([]int, len(g.nodes))
	for _, i := range order {
		sizes[i] = 1
		for _, arg := range g.nodes[i].args {
			// Cut, as they may be twice as large at each step.
			sizes[i] = min(sizes[i]+sizes[g.root(arg)], api.MaxSize+1)
		}
	}
	sum := 0
	for _, name := range names {
		sum += sizes[g.root(g.vars[name])]
	}
	return sum > api.MaxSize
}

// typeOf is what the node becomes, in new memory.
func (g *graph) typeOf(i int) api.Type {
	n := g.nodes[g.root(i)]
	t := api.Type{Name: n.name}
	for _, arg := range n.args {
		t.Args = append(t.Args, g.typeOf(arg))
	}
	return t
}

// Instance is whether some types for the variables of general make it t, whose own variables stand.
func Instance(general, t api.Type) bool {
	return match(general, t, map[string]api.Type{})
}

// match is whether general is made t by what its variables became up to here and some types for the others, which it adds.
func match(general, t api.Type, became map[string]api.Type) bool {
	if isVar(general) {
		was, ok := became[general.Name]
		if !ok {
			became[general.Name] = t
			return true
		}
		return Same(was, t)
	}
	return general.Name == t.Name && slices.EqualFunc(general.Args, t.Args, func(g, t api.Type) bool { return match(g, t, became) })
}
