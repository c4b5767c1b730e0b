package tag

import (
	"cmp"
	"slices"
	"strings"

	"gristmill/api"
)

// Less is whether a comes ahead of b: by Kind, then Name, then N.
func Less(a, b api.Tag) bool { return compare(a, b) < 0 }

func compare(a, b api.Tag) int {
	return cmp.Or(cmp.Compare(a.Kind, b.Kind), strings.Compare(a.Name, b.Name), cmp.Compare(a.N, b.N))
}

// Set is the tags in the order of Less, each once.
func Set(l ...api.Tag) []api.Tag {
	// A copy, as the caller may have handed in a list of its own.
	set := append([]api.Tag(nil), l...)
	slices.SortFunc(set, compare)
	return slices.Compact(set)
}

// Has is whether the tag stands in the list, in whatever order that is.
func Has(l []api.Tag, t api.Tag) bool { return slices.Contains(l, t) }
