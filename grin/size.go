package grin

import "gristmill/api"

// What is larger is beyond the limits of the document: a program that Valid would not take may go on without an end.
const (
	maxLevels = 1 << 17          // no program that Valid takes has more
	maxItems  = (1<<31 - 1) / 32 // as many bytes as a value takes, the least of them
)

// isBounded is whether the functions are looked at.
func isBounded(funcs ...api.Func) bool { return isWithin(maxItems, funcs...) }

// isWithin is whether the steps and branches and values of the functions are, in all, at most so many.
func isWithin(most int, funcs ...api.Func) bool {
	for i := range funcs {
		if !fits(funcs[i].Steps, maxLevels, &most) {
			return false
		}
	}
	return true
}

// fits is whether the steps, and all in them, are no more than are left, in so many levels.
func fits(steps []api.Step, levels int, left *int) bool {
	*left -= len(steps)
	for i := range steps {
		s := &steps[i]
		*left -= len(s.Vals) + len(s.Alts)
		if levels == 0 || *left < 0 {
			return false
		}
		for k := range s.Alts {
			if !fits(s.Alts[k].Steps, levels-1, left) {
				return false
			}
		}
	}
	return true
}
