package gen

import (
	"slices"

	"gristmill/api"
	"gristmill/deps"
	"gristmill/free"
	"gristmill/scope"
)

// def is what is known of a definition.
type def struct {
	function string // what its function is called
	takes    int
	global   bool // whether it takes nothing, and something names it: it is evaluated once, whoever needs it
	place    int  // among the globals
	needs    bool // whether a global is needed for what it is: then its function takes the place of the globals, ahead of its parameters
}

// define makes known the definitions that main needs, and answers these.
func (m *maker) define(p api.Program) (needed []api.Def) {
	m.defs = map[string]def{}
	main, _ := scope.Def(p, "main")
	uses, users := map[string][]string{}, map[string]int{}
	for _, i := range deps.Needed(p, main) {
		d := p.Defs[i]
		needed = append(needed, d)
		uses[d.Name] = usesOf(d)
		for _, name := range uses[d.Name] {
			users[name]++
		}
	}
	for _, d := range needed {
		m.defs[d.Name] = m.defOf(d, users[d.Name])
	}
	// Each round finds those that use one found in the last.
	for range needed {
		for _, d := range needed {
			m.findNeeds(d.Name, uses[d.Name])
		}
	}
	return needed
}

// usesOf is the names of the definitions that are named in what the definition is. (deps.Uses would look at the whole program each time.)
func usesOf(d api.Def) (names []string) {
	for _, name := range free.Names(d.Body) {
		if !slices.Contains(d.Params, name) {
			names = append(names, name)
		}
	}
	return names
}

// defOf is what is known of a definition that so many name.
func (m *maker) defOf(d api.Def, users int) def {
	is := def{function: d.Name, takes: len(d.Params)}
	if is.takes > 0 || users == 0 {
		return is
	}
	is.global, is.place = true, len(m.nullary)
	m.nullary = append(m.nullary, d.Name)
	if d.Name == "main" {
		// The function of that name is the one that is called first.
		is.function = m.nameIn("main")
	}
	return is
}

func (m *maker) findNeeds(name string, uses []string) {
	d := m.defs[name]
	for _, other := range uses {
		d.needs = d.needs || m.takesGlobals(other)
	}
	m.defs[name] = d
}

// takesGlobals is whether the globals are needed where the definition is named.
func (m *maker) takesGlobals(name string) bool { return m.defs[name].global || m.defs[name].needs }
