package grin

import (
	"slices"

	"gristmill/api"
)

// Same is whether the programs differ in nothing; floats are told apart by their bits.
func Same(a, b Prog) bool {
	return isBounded(a.Funcs...) && slices.EqualFunc(a.Funcs, b.Funcs, sameFunc)
}

func sameFunc(a, b api.Func) bool {
	return a.Name == b.Name && slices.Equal(a.Params, b.Params) && slices.EqualFunc(a.Steps, b.Steps, sameStep)
}

func sameStep(a, b api.Step) bool {
	return a.Op == b.Op && a.To == b.To && a.Name == b.Name && a.Tag == b.Tag && a.N == b.N &&
		slices.Equal(a.Vals, b.Vals) && slices.EqualFunc(a.Alts, b.Alts, sameBranch)
}

func sameBranch(a, b api.Branch) bool {
	return a.Take == b.Take && a.Tag == b.Tag && a.N == b.N && slices.EqualFunc(a.Steps, b.Steps, sameStep)
}

// Clone is the Same program in new memory.
func Clone(p Prog) Prog {
	if !isBounded(p.Funcs...) {
		return Prog{}
	}
	return Prog{Funcs: cloneAll(p.Funcs, cloneFunc)}
}

// cloneAll is a new list of the clones of what l has.
func cloneAll[T any](l []T, clone func(T) T) []T {
	var out []T
	for _, x := range l {
		out = append(out, clone(x))
	}
	return out
}

func cloneFunc(f api.Func) api.Func {
	f.Params = append([]string(nil), f.Params...)
	f.Steps = cloneAll(f.Steps, cloneStep)
	return f
}

func cloneStep(s api.Step) api.Step {
	s.Vals = append([]api.Val(nil), s.Vals...)
	s.Alts = cloneAll(s.Alts, cloneBranch)
	return s
}

func cloneBranch(b api.Branch) api.Branch {
	b.Steps = cloneAll(b.Steps, cloneStep)
	return b
}
