package obs

import (
	"strings"

	"gristmill/api"
	"gristmill/flo"
	"gristmill/lex"
	"gristmill/num"
	"gristmill/tree"
)

// The words of what has no more to tell, and what is ahead of a fault's number.
const (
	wordOfFn    = "<fn>"
	wordOfCut   = "_"
	signOfFault = "!"
)

// Text is the observation as text; it is empty of one that is not Valid.
func Text(o api.Obs) string {
	if !Valid(o) {
		return ""
	}
	return tree.Text(node(o))
}

func node(o api.Obs) tree.Node {
	if len(o.L) == 0 {
		return tree.Node{Word: word(o)}
	}
	l := []tree.Node{{Word: o.Name}}
	for _, part := range o.L {
		l = append(l, node(part))
	}
	return tree.Node{L: l}
}

// word is the text of an observation that has no parts.
func word(o api.Obs) string {
	switch o.Kind {
	case api.SeenInt:
		return num.Text(o.N)
	case api.SeenFlo:
		return flo.Text(uint64(o.N))
	case api.SeenFn:
		return wordOfFn
	case api.SeenCut:
		return wordOfCut
	case api.SeenFault:
		return signOfFault + num.Text(o.N)
	}
	return o.Name
}

// Parse is the observation whose Text is s; ErrForm: there is none.
func Parse(s string) (api.Obs, error) {
	o := read(s)
	if !Valid(o) {
		return api.Obs{}, api.ErrForm
	}
	return o, nil
}

// read is the observation whose Text is s; one that is not Valid, if there is none. (Package tree would read no text of more than MaxText bytes, which a Valid one can have.)
func read(s string) api.Obs {
	r := reader{open: make([]api.Obs, 1)}
	for range api.MaxSize { // each piece is one observation
		piece, rest, more := strings.Cut(s, " ")
		if !r.take(piece) {
			break
		}
		if !more {
			return r.whole()
		}
		s = rest
	}
	return api.Obs{}
}

// reader has the trees whose brackets are open, each within the one ahead of it, and ahead of all of them something that stands for what is around the text.
type reader struct{ open []api.Obs }

// take takes what stands between two spaces; false: more is closed there than is open. What is opened has a part ahead of its end, so that it is not Valid, if it is no tree.
func (r *reader) take(piece string) bool {
	if name, ok := strings.CutPrefix(piece, "("); ok {
		r.open = append(r.open, ofWord(name))
		return true
	}
	s := strings.TrimRight(piece, ")")
	r.add(ofWord(s))
	for range len(piece) - len(s) {
		last := len(r.open) - 1
		if last == 0 {
			return false
		}
		o := r.open[last]
		r.open = r.open[:last]
		r.add(o)
	}
	return true
}

// add adds what the tree that was opened last has.
func (r *reader) add(o api.Obs) {
	last := &r.open[len(r.open)-1]
	last.L = append(last.L, o)
}

// whole is what was read, if it is one thing and nothing is open any more.
func (r *reader) whole() api.Obs {
	if len(r.open) != 1 || len(r.open[0].L) != 1 {
		return api.Obs{}
	}
	return r.open[0].L[0]
}

// ofWord is the observation whose text is the word; one that is not Valid, if there is none.
func ofWord(s string) api.Obs {
	switch {
	case s == wordOfFn:
		return api.Obs{Kind: api.SeenFn}
	case s == wordOfCut:
		return api.Obs{Kind: api.SeenCut}
	case lex.Upper(s):
		// A copy, as a piece of the text would keep all of its memory for as long as the observation lives.
		return api.Obs{Kind: api.SeenTree, Name: strings.Clone(s)}
	}
	if n, err := num.Parse(s); err == nil {
		return api.Obs{Kind: api.SeenInt, N: n}
	}
	if a, err := flo.Parse(s); err == nil {
		return api.Obs{Kind: api.SeenFlo, N: int64(a)}
	}
	if s, ok := strings.CutPrefix(s, signOfFault); ok {
		if n, err := num.Parse(s); err == nil {
			return api.Obs{Kind: api.SeenFault, N: n}
		}
	}
	return api.Obs{}
}
