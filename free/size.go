package free

import "gristmill/api"

// What is larger is beyond the limits of the document: an expression that syn.Valid would not take may go on without an end.
const (
	maxLevels = 1 << 16
	maxBytes  = 1<<31 - 1
)

// isBounded is whether e is looked at.
func isBounded(e api.Expr) bool {
	_, ok := sizeOf(e)
	return ok
}

// sizeOf is how many bytes e takes, with each name written out where it stands; false, if it is not bounded.
func sizeOf(e api.Expr) (int, bool) {
	left := maxBytes
	ok := fits(e, maxLevels, &left)
	return maxBytes - left, ok
}

// fits is whether e, and all in it, takes no more than is left, in so many levels.
func fits(e api.Expr, levels int, left *int) bool {
	const ofOthers = 88 // what the other fields of an expression take, wherever it stands
	*left -= ofOthers + sizeOfNames(e.Name) + sizeOfNames(e.Names...)
	if levels == 0 || *left < 0 {
		return false
	}
	for _, part := range e.L {
		if !fits(part, levels-1, left) {
			return false
		}
	}
	for _, a := range e.Alts {
		*left -= sizeOfNames(a.Name) + sizeOfNames(a.Names...)
		if !fits(a.E, levels-1, left) {
			return false
		}
	}
	return true
}

// sizeOfNames is how many bytes the names take in a list.
func sizeOfNames(l ...string) (n int) {
	const ofEach = 16 // beside its bytes
	for _, name := range l {
		n += ofEach + len(name)
	}
	return n
}
