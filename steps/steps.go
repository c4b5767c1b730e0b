// Package steps: programs of steps over nodes that the tests of several layers try.
package steps

import (
	"strconv"

	"gristmill/api"
)

// Chance tells numbers from 0 up to n, this left out.
type Chance interface{ IntN(n int) int }

// Writer writes programs by chance that grin.Valid takes.
type Writer struct {
	Chance
	Wrong int // of how many variables that are looked at one is any; 0: none
}

// What a variable holds: a bare whole number, a bare float, the place of a node of either, of a tree, of a function that lacks arguments, or any place.
const (
	whole     = 'i'
	float     = 'd'
	wholeNode = 'I'
	floatNode = 'D'
	tree      = 't'
	lacking   = 'f'
	anyPlace  = 'p'
)

type known struct {
	name string
	sort byte
}

// writer writes the steps of one function.
type writer struct {
	Writer
	later []api.Func // those that it may call, so that most calls end
	bound *int       // how many variables it has, parameters left out
}

// Trees is the tags of the trees that the programs have.
func Trees() []api.Tag {
	return []api.Tag{{Kind: api.TagCon, Name: "N"}, {Kind: api.TagCon, Name: "S", N: 1}, {Kind: api.TagCon, Name: "P", N: 2}}
}

// Program writes one of main and a few others, in any order.
func (w Writer) Program() []api.Func {
	funcs := []api.Func{{Name: "main"}}
	for i := range w.IntN(5) {
		funcs = append(funcs, api.Func{Name: "f" + strconv.Itoa(i), Params: []string{"a", "b", "c"}[:w.IntN(4)]})
	}
	for i := range funcs {
		var in []known
		for _, name := range funcs[i].Params {
			in = append(in, known{name, anyPlace})
		}
		later := funcs[i+1:]
		if w.IntN(8) == 0 {
			later = funcs
		}
		one := writer{Writer: w, later: later, bound: new(int)}
		funcs[i].Steps = one.steps(w.IntN(4), in)
	}
	at := w.IntN(len(funcs))
	funcs[0], funcs[at] = funcs[at], funcs[0]
	return funcs
}

// steps writes those of a function, or of a branch, in which the variables are known.
func (w writer) steps(deep int, in []known) []api.Step {
	var l []api.Step
	for range 1 + w.IntN(6) {
		s, sort := w.step(in)
		if s.Op != api.DoUpdate {
			s.To = "v" + strconv.Itoa(*w.bound)
			*w.bound++
			in = append(in[:len(in):len(in)], known{s.To, sort})
		}
		l = append(l, s)
	}
	return append(l, w.end(deep, in))
}

// step writes one that does not end, and tells the sort of its answer.
func (w writer) step(in []known) (api.Step, byte) {
	switch w.IntN(12) {
	case 0, 1:
		t := Trees()[w.IntN(3)]
		if vals, ok := w.places(t.N, in); ok {
			return api.Step{Op: api.DoNode, Tag: t, Vals: vals}, tree
		}
	case 2:
		return w.number(in, api.TagFlo, float), floatNode
	case 3, 4:
		return w.prim(in)
	case 5, 6:
		if s, sort := w.call(in); s.Op != 0 {
			return s, sort
		}
	case 7:
		f, ok := w.of(lacking, in)
		if l, is := w.places(1+w.IntN(2), in); ok && is {
			return w.apply(f, l), anyPlace
		}
	case 8:
		return w.look(in)
	case 9:
		if to, ok := w.places(2, in); ok && w.IntN(3) == 0 {
			return api.Step{Op: api.DoUpdate, Vals: to}, 0
		}
	case 10, 11:
		if l, ok := w.places(1, in); ok {
			return api.Step{Op: api.DoEval, Vals: l}, anyPlace
		}
	}
	return w.number(in, api.TagInt, whole), wholeNode
}

// number makes a node of a number.
func (w writer) number(in []known, kind int, sort byte) api.Step {
	return api.Step{Op: api.DoNode, Tag: api.Tag{Kind: kind}, Vals: []api.Val{w.val(sort, in)}}
}

// prim writes one on bare numbers.
func (w writer) prim(in []known) (api.Step, byte) {
	two := func(name string, from, to byte) (api.Step, byte) {
		return api.Step{Op: api.DoPrim, Name: name, Vals: []api.Val{w.val(from, in), w.val(from, in)}}, to
	}
	switch w.IntN(5) {
	case 0:
		return two([]string{"f+", "f-", "f*", "f/"}[w.IntN(4)], float, float)
	case 1:
		return two([]string{"f<", "f="}[w.IntN(2)], float, whole)
	case 2:
		if w.IntN(2) == 0 {
			return api.Step{Op: api.DoPrim, Name: "whole", Vals: []api.Val{w.val(float, in)}}, whole
		}
		return api.Step{Op: api.DoPrim, Name: "float", Vals: []api.Val{w.val(whole, in)}}, float
	}
	return two([]string{"+", "-", "*", "<", "=", "div", "mod"}[w.IntN(7)], whole, whole)
}

// call is a call of a function, or makes a node of one that waits, or lacks arguments; no step, if there is none to call.
func (w writer) call(in []known) (api.Step, byte) {
	if len(w.later) == 0 {
		return api.Step{}, 0
	}
	f := w.later[w.IntN(len(w.later))]
	n := len(f.Params)
	lacks := 0
	if n > 0 && w.IntN(2) == 0 {
		lacks = 1 + w.IntN(n)
	}
	vals, ok := w.places(n-lacks, in)
	switch {
	case !ok:
		return api.Step{}, 0
	case lacks > 0:
		return api.Step{Op: api.DoNode, Tag: api.Tag{Kind: api.TagPap, Name: f.Name, N: lacks}, Vals: vals}, lacking
	case w.IntN(2) == 0:
		return api.Step{Op: api.DoNode, Tag: api.Tag{Kind: api.TagFun, Name: f.Name, N: n}, Vals: vals}, anyPlace
	}
	return api.Step{Op: api.DoCall, Name: f.Name, Vals: vals}, anyPlace
}

// apply applies f to the places, or makes a node that waits.
func (w writer) apply(f api.Val, l []api.Val) api.Step {
	s := api.Step{Op: api.DoApply, Vals: append([]api.Val{f}, l...)}
	if w.IntN(2) == 0 {
		s.Op, s.Tag = api.DoNode, api.Tag{Kind: api.TagApp, N: len(l)}
	}
	return s
}

// look writes one that looks at a node that is there.
func (w writer) look(in []known) (api.Step, byte) {
	for range 4 {
		sort := []byte{wholeNode, floatNode, tree, lacking}[w.IntN(4)]
		v, ok := w.of(sort, in)
		switch {
		case !ok:
			continue
		case w.IntN(4) == 0:
			return api.Step{Op: api.DoFetch, Vals: []api.Val{v}}, sort
		case sort == wholeNode:
			return api.Step{Op: api.DoOpen, Vals: []api.Val{v}}, whole
		case sort == floatNode:
			return api.Step{Op: api.DoOpen, Vals: []api.Val{v}}, float
		case sort == tree:
			return api.Step{Op: api.DoField, Vals: []api.Val{v}, N: int64(w.IntN(2))}, anyPlace
		}
	}
	return w.number(in, api.TagInt, whole), wholeNode
}

// end writes one that ends.
func (w writer) end(deep int, in []known) api.Step {
	if deep > 0 {
		return w.choose(deep, in)
	}
	if l, ok := w.places(1, in); ok && w.IntN(12) > 0 {
		return api.Step{Op: api.DoRet, Vals: l}
	}
	return api.Step{Op: api.DoFail, N: []int64{0, 7, 1 << 31}[w.IntN(3)]}
}

// choose writes a DoCase; most of them take anything in the end.
func (w writer) choose(deep int, in []known) api.Step {
	var alts []api.Branch
	take := func(b api.Branch) {
		b.Steps = w.steps(deep-1-w.IntN(deep), in)
		alts = append(alts, b)
	}
	v := w.val(whole, in)
	place, ok := w.places(1, in)
	switch {
	case w.IntN(8) == 0:
		v = w.val(float, in)
	case ok && w.IntN(2) == 0:
		v = place[0]
		for _, t := range append(Trees(), api.Tag{Kind: api.TagInt}) {
			if w.IntN(2) == 0 {
				take(api.Branch{Take: api.TakeCon, Tag: t})
			}
		}
	default:
		for range w.IntN(3) {
			take(api.Branch{Take: api.TakeInt, N: int64(w.IntN(3))})
		}
	}
	if len(alts) == 0 || w.IntN(6) > 0 {
		take(api.Branch{Take: api.TakeAny})
	}
	return api.Step{Op: api.DoCase, Vals: []api.Val{v}, Alts: alts}
}

// of is a variable of the sort; false: there is none.
func (w writer) of(sort byte, in []known) (api.Val, bool) {
	wrong := w.Wrong > 0 && w.IntN(w.Wrong) == 0
	if len(in) == 0 {
		return api.Val{}, false
	}
	from := w.IntN(len(in))
	for i := range in {
		k := in[(from+i)%len(in)]
		if wrong || k.sort == sort || sort == anyPlace && k.sort != whole && k.sort != float {
			return api.Val{Kind: api.ValVar, Name: k.name}, true
		}
	}
	return api.Val{}, false
}

// places is so many variables that hold places; false: there is none.
func (w writer) places(n int, in []known) (l []api.Val, ok bool) {
	for range n {
		v, ok := w.of(anyPlace, in)
		if !ok {
			return nil, false
		}
		l = append(l, v)
	}
	return l, true
}

// val is a variable, or a number, of the sort.
func (w writer) val(sort byte, in []known) api.Val {
	if v, ok := w.of(sort, in); ok && w.IntN(4) > 0 {
		return v
	}
	if sort == whole {
		return api.Val{Kind: api.ValInt, N: []int64{0, 1, 2, -1, 3, 1<<63 - 1}[w.IntN(6)]}
	}
	// 0, 1, -1.5, infinity, one that is no number.
	return api.Val{Kind: api.ValFlo, N: []int64{0, 0x3ff << 52, -0x4008 << 48, 0x7ff << 52, 0x7ff8 << 48}[w.IntN(5)]}
}
