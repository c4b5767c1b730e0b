package infer

import (
	"slices"
	"strconv"

	"gristmill/api"
	"gristmill/types"
)

// node is a type of which not all is known. What becomes the same is shared, as written out it could be very large.
type node struct {
	name  string  // none: it is a variable
	args  []*node // its Args
	up    *node   // one that it became the same as; nil, if it stands for all that did
	level int     // of a variable: the finder's level at the outermost place that has it in its type; of another one: no variable in it has a greater one
	seen  int     // the mark of isFinite
}

func (n *node) isVar() bool { return n.name == "" }

// root is the node that stands for all that became the same as n. It makes the way there shorter for the next time.
func (n *node) root() *node {
	for n.up != nil {
		if n.up.up != nil {
			n.up = n.up.up
		}
		n = n.up
	}
	return n
}

// con is a type of that name without Args.
func con(name string) *node { return &node{name: name} }

// variable is a new variable, which is of the place alone.
func (f *finder) variable() *node { return &node{level: f.level} }

func (f *finder) vars(n int) (l []*node) {
	for range n {
		l = append(l, f.variable())
	}
	return l
}

// fun is the type of a function that takes the args, one by one, and then is of the type to.
func (f *finder) fun(args []*node, to *node) *node {
	for _, arg := range slices.Backward(args) {
		to = &node{name: arrow, args: []*node{arg, to}, level: f.level}
	}
	return to
}

// read is the type as a node, general in all its variables, those which it has met in vars.
func read(t api.Type, vars map[string]*node) *node {
	if isVarName(t.Name) {
		if vars[t.Name] == nil {
			vars[t.Name] = &node{level: general}
		}
		return vars[t.Name]
	}
	out := con(t.Name)
	for _, arg := range t.Args {
		n := read(arg, vars)
		out.args = append(out.args, n)
		out.level = max(out.level, n.level)
	}
	return out
}

// isVarName is whether a type of that name is a variable.
func isVarName(name string) bool { return 'a' <= name[0] && name[0] <= 'z' }

// typeOf is the type, its variables named as Norm names them. It is one that fits.
func typeOf(n *node) api.Type {
	return types.Norm(write(n, map[*node]int{}))
}

// write is the type with a name for each variable, by its place among those which it has met in vars.
func write(n *node, vars map[*node]int) api.Type {
	n = n.root()
	if n.isVar() {
		if _, ok := vars[n]; !ok {
			vars[n] = len(vars)
		}
		return api.Type{Name: "v" + strconv.Itoa(vars[n])}
	}
	t := api.Type{Name: n.name}
	for _, arg := range n.args {
		t.Args = append(t.Args, write(arg, vars))
	}
	return t
}
