package gen

import (
	"slices"

	"gristmill/api"
)

// makeGlobals makes a place for each global, and a node of these, whose place functions take that need some.
func (b *body) makeGlobals() {
	// That node needs the globals' places, and some of these need its own.
	needed := slices.ContainsFunc(b.nullary, func(name string) bool { return b.defs[name].needs })
	if needed {
		b.globals = b.hole("globals")
	}
	var places []string
	for _, name := range b.nullary {
		var takes []string
		d := b.defs[name]
		if d.needs {
			takes = append(takes, b.globals)
		}
		places = append(places, b.node(name, funTag(d.function, len(takes)), takes...))
	}
	if len(places) > api.MaxList {
		places = b.rows(places)
	}
	all := b.node("globals", globalsTag(len(places)), places...)
	if needed {
		b.fill(b.globals, all)
	} else {
		b.globals = all
	}
}

// rows is nodes of the places, each of as many as one may have.
func (b *body) rows(places []string) (rows []string) {
	for len(places) > 0 {
		n := min(len(places), api.MaxList)
		rows = append(rows, b.node("row", globalsTag(n), places[:n]...))
		places = places[n:]
	}
	return rows
}

// global is a variable that holds the place of a global.
func (b *body) global(name string) string {
	of, n := b.globals, b.defs[name].place
	if len(b.nullary) > api.MaxList {
		of = b.field("row", of, n/api.MaxList)
		n %= api.MaxList
	}
	return b.field(name, of, n)
}

// globalsTag is the tag of a node of so many places of globals. No constructor has a name with a point.
func globalsTag(n int) api.Tag { return conTag("Globals.", n) }
