package gen

import (
	"strconv"

	"gristmill/api"
)

// maker makes the functions of a program of steps. Each returns a place that is evaluated, but main, which nothing calls.
type maker struct {
	cons    map[string]int // of each constructor how many parts it takes
	defs    map[string]def // those that main needs
	nullary []string       // those among them that are globals
	funcs   []api.Func
	made    map[string]int // how many functions were made of what stands in a definition, or of a constructor
}

// functionsOf is the functions of a program of which scope.Check tells no error, and in which there is no Fn.
func functionsOf(p api.Program) []api.Func {
	m := &maker{cons: consOf(p), made: map[string]int{}}
	needed := m.define(p)
	for _, d := range needed {
		if d.Name == "main" {
			m.main(d)
		}
	}
	for _, d := range needed {
		if d.Name != "main" || m.defs["main"].global {
			m.definition(d)
		}
	}
	return m.funcs
}

func consOf(p api.Program) map[string]int {
	cons := map[string]int{}
	for _, d := range p.Datas {
		for _, c := range d.Cons {
			cons[c.Name] = len(c.Args)
		}
	}
	return cons
}

// nameIn is a new name for a function made of what stands in a definition. No definition has a name with a point.
func (m *maker) nameIn(definition string) string {
	m.made[definition]++
	return definition + "." + strconv.Itoa(m.made[definition])
}

// function makes one of a body, which it has when do was called: its place is ahead of those that are made of what stands in it.
func (m *maker) function(name string, b *body, do func()) {
	at := len(m.funcs)
	m.funcs = append(m.funcs, api.Func{})
	do()
	m.funcs[at] = api.Func{Name: name, Params: b.params, Steps: b.steps}
}

// main makes the function that is called: it makes the globals, if there are some.
func (m *maker) main(d api.Def) {
	b := m.body("main")
	m.function("main", b, func() {
		if len(m.nullary) > 0 {
			b.makeGlobals()
		}
		if m.defs["main"].global {
			b.ret(b.global("main"))
		} else {
			b.finish(d.Body)
		}
	})
}

// definition makes the function of a definition.
func (m *maker) definition(d api.Def) {
	b := m.body(d.Name)
	is := m.defs[d.Name]
	if is.needs {
		b.globals = b.parameter("globals")
	}
	for _, name := range d.Params {
		b.bind(name, spot{variable: b.parameter(name)})
	}
	m.function(is.function, b, func() { b.finish(d.Body) })
}

// constructor makes the function of a constructor, if there is none yet, and answers its name.
func (m *maker) constructor(name string) string {
	if m.made[name] == 0 {
		m.made[name]++
		b := m.body(name)
		for range m.cons[name] {
			b.parameter("x")
		}
		m.function(name, b, func() { b.ret(b.node("v", conTag(name, len(b.params)), b.params...)) })
	}
	return name
}
