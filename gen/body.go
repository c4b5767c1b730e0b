package gen

import (
	"strconv"

	"gristmill/api"
)

// body is the steps of a function, or of a branch of it, as they are made.
type body struct {
	*maker
	from    string            // the definition, or the constructor, that it is made of
	params  []string          // the function's
	globals string            // the variable that holds their place; none, where nothing needs it
	bound   map[string][]spot // where the places are to which a name is bound, the innermost one last
	order   []string          // the names that are bound, in the order in which they were
	used    map[string]int    // how many variables of the function are called so, but for a number behind a point
	steps   []api.Step
}

// spot is where a place is: in a variable, or in a field of what is there, or in a field of that, and so on.
type spot struct {
	variable string
	path     []int
}

func (m *maker) body(from string) *body {
	return &body{maker: m, from: from, bound: map[string][]spot{}, used: map[string]int{}}
}

// bind binds the name to the place.
func (b *body) bind(name string, at spot) {
	b.bound[name] = append(b.bound[name], at)
	b.order = append(b.order, name)
}

// unbind takes away what was bound when so many names were bound already.
func (b *body) unbind(before int) {
	for _, name := range b.order[before:] {
		l := b.bound[name]
		b.bound[name] = l[:len(l)-1]
	}
	b.order = b.order[:before]
}

func (b *body) isBound(name string) bool { return len(b.bound[name]) > 0 }

// spot is where the place is to which the name is bound.
func (b *body) spot(name string) spot {
	l := b.bound[name]
	return l[len(l)-1]
}

// variable is a new variable that is called so, or nearly so. No name in a program has a point.
func (b *body) variable(name string) string {
	n := b.used[name]
	b.used[name]++
	if n > 0 {
		name += "." + strconv.Itoa(n)
	}
	return name
}

func (b *body) parameter(name string) string {
	name = b.variable(name)
	b.params = append(b.params, name)
	return name
}

func (b *body) add(s api.Step) { b.steps = append(b.steps, s) }

// to adds a step whose answer goes to a new variable, and answers that one.
func (b *body) to(name string, s api.Step) string {
	s.To = b.variable(name)
	b.add(s)
	return s.To
}

func (b *body) ret(variable string) {
	b.add(api.Step{Op: api.DoRet, Vals: values(variable)})
}

// node makes one of places.
func (b *body) node(name string, t api.Tag, fields ...string) string {
	return b.to(name, api.Step{Op: api.DoNode, Tag: t, Vals: values(fields...)})
}

// number makes a node of a bare number.
func (b *body) number(name string, kind int, v api.Val) string {
	return b.to(name, api.Step{Op: api.DoNode, Tag: api.Tag{Kind: kind}, Vals: []api.Val{v}})
}

// hole makes a node whose place is needed ahead of what is to be there; till then nothing looks at it.
func (b *body) hole(name string) string {
	return b.number(name, api.TagInt, api.Val{Kind: api.ValInt})
}

// fill makes of a hole what is to be there.
func (b *body) fill(hole, is string) {
	b.add(api.Step{Op: api.DoUpdate, Vals: values(hole, is)})
}

// field is a variable that holds the place in a field.
func (b *body) field(name, of string, n int) string {
	return b.to(name, api.Step{Op: api.DoField, Vals: values(of), N: int64(n)})
}

// place is a variable that holds the place to which the name is bound, or that of a global.
func (b *body) place(name string) string {
	if !b.isBound(name) {
		return b.global(name)
	}
	at := b.spot(name)
	for _, n := range at.path {
		at.variable = b.field(name, at.variable, n)
	}
	return at.variable
}

func conTag(name string, parts int) api.Tag {
	return api.Tag{Kind: api.TagCon, Name: name, N: parts}
}

func funTag(name string, takes int) api.Tag {
	return api.Tag{Kind: api.TagFun, Name: name, N: takes}
}

func value(variable string) api.Val { return api.Val{Kind: api.ValVar, Name: variable} }

func values(variables ...string) (l []api.Val) {
	for _, name := range variables {
		l = append(l, value(name))
	}
	return l
}
