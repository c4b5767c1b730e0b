package infer_test

import (
	"slices"
	"testing"

	"gristmill/api"
	"gristmill/infer"
	"gristmill/syn"
	"gristmill/types"
)

// tally counts what was held against the model: without a variable and with some, wrong as something was too large, wrong otherwise. And what the model could not tell.
type tally struct{ right, general, over, wrong, large int }

// skip goes on where the model panicked, as it can't tell.
func (n *tally) skip() {
	err := recover()
	if err == large {
		n.large++
	} else if err != nil {
		panic(err)
	}
}

// count counts an answer: the types, or the error.
func (n *tally) count(m *model, l []api.Type, err error) {
	switch {
	case m.over:
		n.over++
	case err != nil:
		n.wrong++
	case len(types.Vars(l...)) > 0:
		n.general++
	default:
		n.right++
	}
}

// hold holds Types against the model.
func (n *tally) hold(t *testing.T, s string) {
	t.Helper()
	defer n.skip()
	p := read(t, s)
	m := newModel(p)
	want, place := m.types()
	got, err := infer.Types(p)
	if at, _ := err.(*api.At); (err != nil) != (place >= 0) || err != nil && (at == nil || *at != (api.At{Pos: place, Err: api.ErrType})) || !slices.Equal(textsOf(got), want) {
		t.Fatalf("%s: %q, %v; want %q, %d", s, textsOf(got), err, want, place)
	}
	n.count(m, got, err)
}

// holdExpr holds Expr against the model, to which the definitions of p are known.
func (n *tally) holdExpr(t *testing.T, p api.Program, known []named, e api.Expr) {
	t.Helper()
	defer n.skip()
	m := newModel(p)
	want := m.typeOf(known, e)
	got, err := infer.Expr(p, e)
	if types.Text(got) != want || (err == nil) != (want != "") || err != nil && err != api.ErrType {
		t.Fatalf("%s: %q, %v; want %q", exprText(e), types.Text(got), err, want)
	}
	n.count(m, []api.Type{got}, err)
}

func exprText(e api.Expr) string {
	return syn.Text(api.Program{Defs: []api.Def{{Name: "e", Body: e}}})
}
