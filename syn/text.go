package syn

import (
	"strings"

	"gristmill/api"
	"gristmill/flo"
	"gristmill/num"
	"gristmill/tree"
)

// Text is the program as text: the data, then the definitions, a line each.
func Text(p api.Program) string {
	var b strings.Builder
	for _, d := range p.Datas {
		b.WriteString(tree.Text(nodeOfData(d)) + "\n")
	}
	for _, d := range p.Defs {
		b.WriteString(tree.Text(nodeOfDef(d)) + "\n")
	}
	return b.String()
}

func word(s string) tree.Node { return tree.Node{Word: s} }

func list(l ...tree.Node) tree.Node { return tree.Node{L: l} }

// nodes is a new list of what f makes of each of l.
func nodes[T any](l []T, f func(T) tree.Node) []tree.Node {
	var out []tree.Node
	for _, x := range l {
		out = append(out, f(x))
	}
	return out
}

// named is a name with the parts behind it in brackets, or, without parts, as a word alone.
func named(name string, parts []tree.Node) tree.Node {
	if len(parts) == 0 {
		return word(name)
	}
	return list(append([]tree.Node{word(name)}, parts...)...)
}

func nodeOfData(d api.Data) tree.Node {
	l := []tree.Node{word("data"), word(d.Name)}
	l = append(l, nodes(d.Params, word)...)
	return list(append(l, nodes(d.Cons, nodeOfCons)...)...)
}

func nodeOfCons(c api.Cons) tree.Node { return named(c.Name, nodes(c.Args, nodeOfType)) }

func nodeOfType(t api.Type) tree.Node { return named(t.Name, nodes(t.Args, nodeOfType)) }

func nodeOfDef(d api.Def) tree.Node {
	l := []tree.Node{word("def"), word(d.Name)}
	l = append(l, nodes(d.Params, word)...)
	return list(append(l, nodeOfExpr(d.Body))...)
}

func nodeOfExpr(e api.Expr) tree.Node {
	switch e.Op {
	case api.Var, api.Con:
		return word(e.Name)
	case api.Int:
		return word(num.Text(e.N))
	case api.Flo:
		return word(flo.Text(uint64(e.N)))
	case api.Fail:
		return list(word("fail"), word(num.Text(e.N)))
	case api.App:
		return list(nodes(e.L, nodeOfExpr)...)
	case api.Prim:
		return named(e.Name, nodes(e.L, nodeOfExpr))
	case api.Fn:
		l := []tree.Node{word("fn"), list(nodes(e.Names, word)...)}
		return list(append(l, nodes(e.L, nodeOfExpr)...)...)
	case api.Let:
		return nodeOfLet(e)
	case api.Case:
		l := append([]tree.Node{word("case")}, nodes(e.L, nodeOfExpr)...)
		return list(append(l, nodes(e.Alts, nodeOfAlt)...)...)
	}
	return list()
}

// nodeOfLet takes as many names as there are parts for, as Text has to end of a program that is not Valid, too.
func nodeOfLet(e api.Expr) tree.Node {
	bound := min(len(e.Names), len(e.L))
	var l []tree.Node
	for i, name := range e.Names[:bound] {
		l = append(l, list(word(name), nodeOfExpr(e.L[i])))
	}
	l = []tree.Node{word("let"), list(l...)}
	return list(append(l, nodes(e.L[bound:], nodeOfExpr)...)...)
}

func nodeOfAlt(a api.Alt) tree.Node { return list(nodeOfPattern(a), nodeOfExpr(a.E)) }

func nodeOfPattern(a api.Alt) tree.Node {
	switch a.Take {
	case api.TakeCon:
		return named(a.Name, nodes(a.Names, word))
	case api.TakeInt:
		return word(num.Text(a.N))
	}
	return word("_")
}
