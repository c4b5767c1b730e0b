package gen

import (
	"cmp"
	"slices"

	"gristmill/api"
)

// take binds the names in another function to the places to which they are bound here, and answers the variables that it takes for that, at most so many.
func (b *body) take(in *body, names []string, most int) []string {
	spots := make([]spot, len(names))
	for i, name := range names {
		spots[i] = b.spot(name)
	}
	roots := rootsOf(spots)
	for len(roots) > most {
		b.pack(spots, roots[:api.MaxList])
		roots = rootsOf(spots)
	}
	params := make([]string, len(roots))
	for i, name := range names {
		k := slices.Index(roots, spots[i].variable)
		switch {
		case params[k] == "" && len(spots[i].path) == 0:
			params[k] = in.variable(name)
		case params[k] == "":
			params[k] = in.variable("pack")
		}
		in.bind(name, spot{variable: params[k], path: spots[i].path})
	}
	in.params = append(in.params, params...)
	return roots
}

// rootsOf is the variables in which the spots begin, each once, ahead those from which none is many fields away: what was packed is packed again only when there is much of it, so that no way becomes long.
func rootsOf(spots []spot) (roots []string) {
	deep := map[string]int{}
	for _, at := range spots {
		if _, ok := deep[at.variable]; !ok {
			roots = append(roots, at.variable)
		}
		deep[at.variable] = max(deep[at.variable], len(at.path))
	}
	slices.SortStableFunc(roots, func(a, b string) int { return cmp.Compare(deep[a], deep[b]) })
	return roots
}

// pack makes a node of the places that the roots hold, and has the spots begin there.
func (b *body) pack(spots []spot, roots []string) {
	pack := b.node("pack", conTag("Pack.", len(roots)), roots...)
	for i, at := range spots {
		if k := slices.Index(roots, at.variable); k >= 0 {
			spots[i] = spot{variable: pack, path: append([]int{k}, at.path...)}
		}
	}
}
