package num

// prim is what is known of a prim: how many arguments it takes, and whether its answer is a float.
type prim struct {
	name   string
	args   int
	floaty bool
}

// prims is in the order that Prims tells.
var prims = [...]prim{
	{"+", 2, false},
	{"-", 2, false},
	{"*", 2, false},
	{"div", 2, false},
	{"mod", 2, false},
	{"<", 2, false},
	{"=", 2, false},
	{"f+", 2, true},
	{"f-", 2, true},
	{"f*", 2, true},
	{"f/", 2, true},
	{"f<", 2, false},
	{"f=", 2, false},
	{"float", 1, true},
	{"whole", 1, false},
	{"seq", 2, false},
}

// Prims is the names of all prims, as a new list.
func Prims() []string {
	names := make([]string, len(prims))
	for i, p := range prims {
		names[i] = p.name
	}
	return names
}

// Arity is how many arguments a prim takes; false: there is no such prim.
func Arity(name string) (int, bool) {
	p, ok := find(name)
	return p.args, ok
}

// Floaty is whether the answer of a prim is a float.
func Floaty(name string) bool {
	p, _ := find(name)
	return p.floaty
}

// find is the prim of that name; false: there is none.
func find(name string) (prim, bool) {
	for _, p := range prims {
		if p.name == name {
			return p, true
		}
	}
	return prim{}, false
}
