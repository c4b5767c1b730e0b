package lift

import (
	"slices"

	"gristmill/api"
	"gristmill/free"
)

// lifter makes definitions of the functions of a program.
type lifter struct {
	used  []string // the names that no new one may be
	taken []string // the new names of what definitions take of what was bound around them: each definition has the first of these
	made  []api.Def
	room  int // how many of these there may be
}

// namesIn is the names of the program's definitions, and those that these bind.
func namesIn(p api.Program) (l []string) {
	for _, d := range p.Defs {
		l = append(l, d.Name)
		l = append(l, d.Params...)
		l = append(l, free.Bound(d.Body)...)
	}
	return l
}

// fresh is a name that neither the program has nor was given before. It is short, whatever those are, so that the text grows little, however long the names in it.
func (l *lifter) fresh(base string) string {
	name := free.Fresh(base, l.used...)
	l.used = append(l.used, name)
	return name
}

// firstTaken is the first n of the names taken.
func (l *lifter) firstTaken(n int) []string {
	for len(l.taken) < n {
		l.taken = append(l.taken, l.fresh("v"))
	}
	return l.taken[:n]
}

// define makes a definition of a Fn, which takes what the names outer are bound to around the Fn ahead of its own, and answers its name. Where there may be no such one it answers none, which no program may have: so it ends early, however much it would be.
func (l *lifter) define(fn api.Expr, outer []string) string {
	if len(l.made) == l.room || len(outer)+len(fn.Names) > api.MaxList {
		return ""
	}
	name := l.fresh("f")
	params := slices.Concat(l.firstTaken(len(outer)), fn.Names)
	// Its place is ahead of those that are made of what is in it.
	at := len(l.made)
	l.made = append(l.made, api.Def{})
	body := l.body(outer, fn.Names).expr(fn.L[0])
	l.made[at] = api.Def{Name: name, Params: params, Body: body}
	return name
}
