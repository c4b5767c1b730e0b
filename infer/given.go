package infer

import (
	"gristmill/api"
	"gristmill/num"
	"gristmill/scope"
	"gristmill/types"
)

// The names of the types that the language has.
const (
	arrow   = "->"
	ofInt   = "Int"
	ofFloat = "Float"
)

// Cons is the type of the first constructor of that name: a function of what it has to its data; false, if there is none.
func Cons(p api.Program, name string) (api.Type, bool) {
	data, place, ok := scope.Cons(p, name)
	if !ok {
		return api.Type{}, false
	}
	d := p.Datas[data]
	args := d.Cons[place].Args
	left := maxTypes
	if !isBounded(args, maxLevels, &left) {
		return api.Type{}, false
	}
	to := api.Type{Name: d.Name}
	for _, param := range d.Params {
		to.Args = append(to.Args, api.Type{Name: param})
	}
	return types.Norm(types.Fun(args, to)), true
}

// What goes beyond these is beyond the limits of the document: it could go on without an end, in a program that syn.Valid would not take.
const (
	maxLevels = 1 << 16
	maxTypes  = 1 << 26
)

// isBounded is whether the types, and all in them, are no more than left, in so many levels.
func isBounded(l []api.Type, levels int, left *int) bool {
	*left -= len(l)
	if *left < 0 || levels == 0 && len(l) > 0 {
		return false
	}
	for _, t := range l {
		if !isBounded(t.Args, levels-1, left) {
			return false
		}
	}
	return true
}

// Prim is the type of a prim; false, if there is none of that name.
func Prim(name string) (api.Type, bool) {
	if _, ok := num.Arity(name); !ok {
		return api.Type{}, false
	}
	i, f := api.Type{Name: ofInt}, api.Type{Name: ofFloat}
	a, b := api.Type{Name: "a"}, api.Type{Name: "b"}
	switch name {
	case "f+", "f-", "f*", "f/":
		return types.Fun([]api.Type{f, f}, f), true
	case "f<", "f=":
		return types.Fun([]api.Type{f, f}, i), true
	case "float":
		return types.Fun([]api.Type{i}, f), true
	case "whole":
		return types.Fun([]api.Type{f}, i), true
	case "seq":
		return types.Fun([]api.Type{a, b}, b), true
	}
	return types.Fun([]api.Type{i, i}, i), true
}
