package obs

import (
	"math"

	"gristmill/api"
)

// uncut is a depth at which no tree is left out.
const uncut = math.MaxInt

// Cut is the observation in new memory, with the trees left out that are within so many others.
func Cut(o api.Obs, depth int) api.Obs {
	if !isBounded(o, depth) {
		return api.Obs{}
	}
	return cut(o, depth)
}

func cut(o api.Obs, depth int) api.Obs {
	if isCut(o, depth) {
		return api.Obs{Kind: api.SeenCut}
	}
	out := api.Obs{Kind: o.Kind, N: o.N, Name: o.Name}
	for _, part := range o.L {
		out.L = append(out.L, cut(part, depthIn(o, depth)))
	}
	return out
}

// isCut is whether the observation is a tree that is left out at that depth.
func isCut(o api.Obs, depth int) bool { return o.Kind == api.SeenTree && depth <= 0 }

// depthIn is the depth for what the observation has. Only a tree is cut: what another one has, which it may not, is as it is.
func depthIn(o api.Obs, depth int) int {
	if o.Kind != api.SeenTree {
		return uncut
	}
	return depth - 1
}

// What is larger is beyond the limits of the document: an observation that is not Valid may go on without an end.
const (
	maxLevels = 1 << 16
	maxBytes  = 1<<31 - 1
)

// isBounded is whether the Cut of the observation at that depth can be written out.
func isBounded(o api.Obs, depth int) bool {
	left := maxBytes
	return fits(o, depth, maxLevels, &left)
}

// fits is whether it takes no more bytes than are left, in so many levels.
func fits(o api.Obs, depth, levels int, left *int) bool {
	const ofOthers = 56 // what an observation takes beside its name and what it has
	*left -= ofOthers + len(o.Name)
	if levels < 0 || *left < 0 {
		return false
	}
	if isCut(o, depth) {
		return true
	}
	for _, part := range o.L {
		if !fits(part, depthIn(o, depth), levels-1, left) {
			return false
		}
	}
	return true
}
