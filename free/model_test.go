package free_test

import (
	"slices"
	"testing"

	"gristmill/api"
	"gristmill/free"
	"gristmill/lex"
	"gristmill/syn"
	"gristmill/tree"
)

// model looks at expressions as words and lists: which of the words are names, and where these are bound.
type model struct {
	free, bound []string                  // in the order in which they come, each as often as it comes
	put         func(tree.Node) tree.Node // what comes in place of a free one
}

// expr is the expression with what put makes of its free names; those around are bound.
func (m *model) expr(n tree.Node, around []string) tree.Node {
	if n.Word != "" {
		if !lex.Name(n.Word) || slices.Contains(around, n.Word) {
			return n
		}
		m.free = append(m.free, n.Word)
		return m.put(n)
	}
	out := []tree.Node{n.L[0]}
	switch n.L[0].Word {
	case "fn":
		return list(n.L[0], n.L[1], m.expr(n.L[2], m.bind(n.L[1].L, around)))
	case "let":
		var names, pairs []tree.Node
		for _, pair := range n.L[1].L {
			names = append(names, pair.L[0])
		}
		around = m.bind(names, around)
		for i, pair := range n.L[1].L {
			pairs = append(pairs, list(names[i], m.expr(pair.L[1], around)))
		}
		return list(n.L[0], list(pairs...), m.expr(n.L[2], around))
	case "case":
		out = append(out, m.expr(n.L[1], around))
		for _, alt := range n.L[2:] {
			inner := around
			if alt.L[0].Word == "" {
				inner = m.bind(alt.L[0].L[1:], around)
			}
			out = append(out, list(alt.L[0], m.expr(alt.L[1], inner)))
		}
		return list(out...)
	}
	out = nil
	for _, part := range n.L {
		out = append(out, m.expr(part, around))
	}
	return list(out...)
}

func list(l ...tree.Node) tree.Node { return tree.Node{L: l} }

// bind is the names around, and these too.
func (m *model) bind(names []tree.Node, around []string) []string {
	around = slices.Clone(around)
	for _, n := range names {
		m.bound = append(m.bound, n.Word)
		around = append(around, n.Word)
	}
	return around
}

// each is the names, each once.
func each(names []string) (out []string) {
	for i, name := range names {
		if !slices.Contains(names[:i], name) {
			out = append(out, name)
		}
	}
	return out
}

// node is the expression as a list or a word.
func node(t *testing.T, e api.Expr) tree.Node {
	t.Helper()
	l, err := tree.Parse(text(e))
	if err != nil || len(l) != 1 {
		t.Fatal(text(e), err)
	}
	return l[0]
}

// hold holds what is told of the expression, and what is made of it with by in place of the names, against the model.
func hold(t *testing.T, e, by api.Expr, names ...string) {
	t.Helper()
	n, kept := node(t, e), text(e)
	stays := model{put: func(n tree.Node) tree.Node { return n }}
	stays.expr(n, nil)
	if got := free.Names(e); !slices.Equal(got, each(stays.free)) {
		t.Fatalf("Names of %q: %q", kept, got)
	}
	if got := free.Bound(e); !slices.Equal(got, each(stays.bound)) {
		t.Fatalf("Bound of %q: %q", kept, got)
	}
	if got := free.Closed(e); got != (len(stays.free) == 0) {
		t.Fatalf("Closed of %q: %v", kept, got)
	}
	for _, name := range names {
		holdPut(t, e, name, node(t, by), free.Subst(e, name, by))
		holdPut(t, e, name, tree.Node{Word: "z"}, free.Rename(e, name, "z"))
	}
	if text(e) != kept {
		t.Fatalf("%q became %q", kept, text(e))
	}
}

// holdPut holds what was made of the expression against what it is with by in place of the free Vars of the name.
func holdPut(t *testing.T, e api.Expr, name string, by tree.Node, got api.Expr) {
	t.Helper()
	m := model{put: func(n tree.Node) tree.Node {
		if n.Word == name {
			return by
		}
		return n
	}}
	want := tree.Text(m.expr(node(t, e), nil))
	p, err := syn.Parse("(def f " + want + ")")
	if err != nil || !same(got, p.Defs[0].Body) {
		t.Fatalf("%q, %s by %q: %q; want %q: %v", text(e), name, tree.Text(by), text(got), want, err)
	}
}
