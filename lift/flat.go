package lift

import "gristmill/api"

// What is larger is beyond the limits of the document: a program that syn.Valid would not take may go on without an end.
const (
	maxLevels = 1 << 16
	maxExprs  = (1<<31 - 1) / 104 // as many bytes as an expression takes, wherever it stands
)

// Flat is whether there is no Fn in the program.
func Flat(p api.Program) bool {
	left := maxExprs
	for _, d := range p.Defs {
		if !isFlat(d.Body, maxLevels, &left) {
			return false
		}
	}
	return true
}

// isFlat is whether there is no Fn in the expression, and it is no more than is left, in so many levels.
func isFlat(e api.Expr, levels int, left *int) bool {
	*left--
	if e.Op == api.Fn || levels == 0 || *left < 0 {
		return false
	}
	for _, part := range e.L {
		if !isFlat(part, levels-1, left) {
			return false
		}
	}
	for _, a := range e.Alts {
		if !isFlat(a.E, levels-1, left) {
			return false
		}
	}
	return true
}
