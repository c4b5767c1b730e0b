package gen

import (
	"slices"

	"gristmill/api"
	"gristmill/free"
)

// letting binds the names of a Let, one by one.
type letting struct {
	*body
	names []string
	parts []api.Expr
	uses  [][]int  // which of the names each part needs
	holes []string // what a name is bound to whose place is needed ahead of what is there
	found []bool   // whether its place is known
}

// let binds the names of a Let; what it is all in stands behind the parts.
func (b *body) let(names []string, parts []api.Expr) {
	n := len(names)
	l := letting{body: b, names: names, parts: parts, uses: make([][]int, n), holes: make([]string, n), found: make([]bool, n)}
	for i := range names {
		for _, name := range free.Names(parts[i]) {
			if k := slices.Index(names, name); k >= 0 {
				l.uses[i] = append(l.uses[i], k)
			}
		}
	}
	done := make([]bool, n)
	for range names {
		i := l.next(done)
		l.part(i)
		done[i] = true
	}
}

// next is the first part, of those not done, that needs no place that is not known; if there is none, the first.
func (l *letting) next(done []bool) int {
	for i := range done {
		if !done[i] && !slices.ContainsFunc(l.uses[i], func(k int) bool { return !l.found[k] }) {
			return i
		}
	}
	return slices.Index(done, false)
}

// part makes the place of what a name is, and binds the name to it.
func (l *letting) part(i int) {
	for _, k := range l.uses[i] {
		if !l.found[k] {
			l.holes[k] = l.hole(l.names[k])
			l.put(k, spot{variable: l.holes[k]})
		}
	}
	e := l.parts[i]
	switch {
	case l.holes[i] == "" && e.Op == api.Var && l.isBound(e.Name):
		l.put(i, l.spot(e.Name))
	case l.holes[i] == "":
		l.put(i, spot{variable: l.cell(e)})
	case e.Op == api.Var:
		// A name of this Let: the place may be the hole's own.
		l.fill(l.holes[i], l.waiting(e))
	default:
		l.fill(l.holes[i], l.cell(e))
	}
}

func (l *letting) put(k int, at spot) {
	l.bind(l.names[k], at)
	l.found[k] = true
}
