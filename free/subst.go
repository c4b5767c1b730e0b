package free

import (
	"slices"

	"gristmill/api"
)

// Rename is e with the name to in place of from wherever a Var of that name is free.
func Rename(e api.Expr, from, to string) api.Expr {
	return Subst(e, from, api.Expr{Op: api.Var, Name: to})
}

// Subst is e with by in place of each free Var of the name.
func Subst(e api.Expr, name string, by api.Expr) api.Expr {
	if !canSubst(e, name, by) {
		return api.Expr{}
	}
	s := substitution{name, by}
	return s.copy(e, false)
}

// canSubst is whether e is bounded, and is so with by in it, too.
func canSubst(e api.Expr, name string, by api.Expr) bool {
	size, ok := sizeOf(e)
	if !ok {
		return false
	}
	uses := 0
	find(e, func(free string) {
		if free == name {
			uses++
		}
	})
	if uses == 0 {
		return true // whatever by is
	}
	more, ok := sizeOf(by)
	return ok && more <= (maxBytes-size)/uses
}

// substitution puts an expression in place of the free Vars of a name.
type substitution struct {
	name string
	by   api.Expr
}

// copy is e in new memory, substituted, unless the name is bound around it.
func (s substitution) copy(e api.Expr, bound bool) api.Expr {
	if e.Op == api.Var && e.Name == s.name && !bound {
		return s.copy(s.by, true)
	}
	inner := bound || slices.Contains(e.Names, s.name)
	out := api.Expr{Op: e.Op, Name: e.Name, N: e.N, Names: copyNames(e.Names)}
	for _, part := range e.L {
		out.L = append(out.L, s.copy(part, inner))
	}
	for _, a := range e.Alts {
		a.E = s.copy(a.E, bound || slices.Contains(a.Names, s.name))
		a.Names = copyNames(a.Names)
		out.Alts = append(out.Alts, a)
	}
	return out
}

func copyNames(l []string) []string { return append([]string(nil), l...) }
