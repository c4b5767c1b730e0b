package tree

import (
	"gristmill/api"
	"gristmill/lex"
)

// Parse is the nodes of a text. An error of lex is bare, each other one is an At around the place of a bracket.
func Parse(s string) ([]Node, error) {
	words, err := lex.Words(s)
	if err != nil {
		return nil, err
	}
	var r reader
	for _, w := range words {
		if err := r.take(w); err != nil {
			return nil, err
		}
	}
	return r.end()
}

// reader is what was read up to some word.
type reader struct {
	done []Node // what stands in no bracket
	open []Node // the lists whose brackets are open, the innermost last
}

func (r *reader) take(w lex.Word) error {
	switch w.Text {
	case "(":
		return r.openList(w.Pos)
	case ")":
		return r.closeList(w.Pos)
	}
	r.add(Node{Word: w.Text, Pos: w.Pos})
	return nil
}

func (r *reader) openList(pos int) error {
	if len(r.open) == api.MaxDeep {
		return &api.At{Pos: pos, Err: api.ErrDeep}
	}
	r.open = append(r.open, Node{Pos: pos})
	return nil
}

func (r *reader) closeList(pos int) error {
	if len(r.open) == 0 {
		return &api.At{Pos: pos, Err: api.ErrClose}
	}
	last := len(r.open) - 1
	n := r.open[last]
	r.open = r.open[:last]
	r.add(n)
	return nil
}

// add puts a node that is whole to the end of the innermost list that is open, or of the text.
func (r *reader) add(n Node) {
	l := &r.done
	if len(r.open) > 0 {
		l = &r.open[len(r.open)-1].L
	}
	*l = append(*l, n)
}

// end is all that was read, if no bracket is open.
func (r *reader) end() ([]Node, error) {
	if len(r.open) > 0 {
		return nil, &api.At{Pos: r.open[len(r.open)-1].Pos, Err: api.ErrOpen}
	}
	return r.done, nil
}
