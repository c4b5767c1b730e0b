package run

import (
	"gristmill/api"
	"gristmill/tag"
)

// node is what is at a place: the place is the node's own, what is there may become another one's.
type node struct {
	is     *label
	fields []*node // none of a bare one
	n      int64   // a bare one's number
	under  bool    // whether it is under way
}

// become makes what is at the place what is at the other one. Fields are never written again, so that both may have them.
func (at *node) become(other *node) {
	at.is, at.fields, at.n, at.under = other.is, other.fields, other.n, false
}

// bare is the number of a bare node.
func (at *node) bare() value {
	if at.is.tag.Kind == api.TagFlo {
		return value{sort: float, n: at.n}
	}
	return value{sort: whole, n: at.n}
}

// What a variable may hold.
const (
	place = 1
	whole = 2
	float = 3
)

// value is what a variable holds: a place, or a bare number.
type value struct {
	sort int
	at   *node
	n    int64
}

func placeOf(at *node) value { return value{sort: place, at: at} }

// label is a tag. There is one of each, so that two are the same tag if they are the same label.
type label struct {
	tag   api.Tag
	waits bool
	bare  bool
	of    *function // of a TagFun, a TagPap
}

// labels is all that a run has met.
type labels map[api.Tag]*label

// of is the label of the tag, whose function is that one, if it has one.
func (l labels) of(t api.Tag, of *function) *label {
	is, ok := l[t]
	if !ok {
		is = &label{tag: t, waits: tag.Waits(t), bare: tag.Bare(t), of: of}
		l[t] = is
	}
	return is
}
