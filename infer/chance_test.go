package infer_test

import (
	"math/rand/v2"
	"slices"
	"strconv"
	"strings"
	"testing"
)

// writer writes programs by chance.
type writer struct{ *rand.Rand }

func (w writer) pick(l ...string) string { return l[w.IntN(len(l))] }

// expr writes one in which the names are known, so deep.
func (w writer) expr(deep int, known []string) string {
	part := func(more ...string) string { return w.expr(deep-1, slices.Concat(known, more)) }
	name := w.pick("x", "y", "z")
	how := w.IntN(16)
	if deep <= 0 {
		how = w.IntN(5)
	}
	switch how {
	case 0, 1, 2, 3:
		return w.pick(known...)
	case 4:
		return w.pick("1", "1p0", "N", "C", "P", "(fail 1)", "N", "(fn (q) q)")
	case 5, 6:
		return "(" + part() + " " + part() + ")"
	case 7:
		return "(" + w.pick("C", "P", w.pick(known...)) + " " + part() + " " + part() + ")"
	case 8, 9:
		return "(fn (" + name + ") " + part(name) + ")"
	case 10:
		return "(" + w.pick("+", "<", "seq", "seq", "f*") + " " + part() + " " + part() + ")"
	case 11, 12:
		return "(let ((" + name + " " + part(name) + ")) " + part(name) + ")"
	case 13:
		return "(let ((x " + part("x", "y") + ") (y " + part("x", "y") + ")) " + part("x", "y") + ")"
	case 14:
		return "(case " + part() + " ((C x y) " + part("x", "y") + ") " + w.pick("(N "+part()+")", "(_ "+part()+")") + ")"
	}
	return "(case " + part() + " " + w.pick("(1 "+part()+") (_ "+part()+")", "((P x z) "+part("x", "z")+")", "(_ "+part()+")") + ")"
}

// program writes one of so many definitions and main.
func (w writer) program(defs int) string {
	var known []string
	for i := range defs {
		known = append(known, "f"+strconv.Itoa(i))
	}
	var b strings.Builder
	b.WriteString(lists)
	for i, name := range known {
		params := []string{"x", "y"}[:w.IntN(3)]
		// All of them, or those ahead: else they would be one group most often.
		inner := slices.Concat(known, params, params)
		if w.IntN(2) == 0 {
			inner = slices.Concat(known[:i+1], params, params)
		}
		b.WriteString(" (def " + name + " " + strings.Join(params, " ") + " " + w.expr(1+w.IntN(3), inner) + ")")
	}
	b.WriteString(" (def main " + w.expr(1+w.IntN(4), append(known, "main")) + ")")
	return b.String()
}

// large writes an expression in which u, x, y and z are known, of types about as large as may be.
func (w writer) large(deep int) string {
	part := func() string { return w.large(deep - 1) }
	if deep <= 0 || w.IntN(6) == 0 {
		return w.pick("x", "y", "z", "u", "h", "1")
	}
	switch w.IntN(12) {
	case 0, 1:
		return "(" + w.pick("q", "q", "l") + " " + part() + ")"
	case 2, 3, 4:
		return "(same " + w.pick("x", "y", "z") + " " + part() + ")"
	case 5, 6:
		return "(" + w.pick("seq", "P", "(fail 1)") + " " + part() + " " + part() + ")"
	case 7, 8:
		return "(let ((u " + part() + ")) " + part() + ")"
	case 9:
		return "(let ((u " + part() + ") (x " + part() + ")) " + part() + ")"
	case 10:
		return "(case " + part() + " (" + w.pick("(P x u)", "(P y x)", "(C x y)", "(C y u)", "1", "_") + " " + part() + ") (" + w.pick("(P y z)", "(C x u)", "_", "_", "2") + " " + part() + "))"
	}
	return "((fn (" + w.pick("x", "u", "z y") + ") " + part() + ") " + part() + ")"
}

func TestLargeTypesByChance(t *testing.T) {
	var n tally
	w := writer{rand.New(rand.NewPCG(9, 4))}
	for range 20 {
		p := read(t, ofSize+"(def h "+sized(900+w.IntN(1000))+") (def main 1)")
		known, _ := newModel(p).defs()
		for range 200 {
			e := read(t, "(def e (seq (fn (x y z u) "+w.large(5)+") 1))").Defs[0].Body
			n.holdExpr(t, p, known, e)
		}
	}
	if n.right < 100 || n.over < 100 || n.wrong < 100 || n.large > 100 {
		t.Error(n)
	}
}

func TestProgramsByChance(t *testing.T) {
	var n tally
	w := writer{rand.New(rand.NewPCG(9, 3))}
	for range 20000 {
		n.hold(t, w.program(w.IntN(5)))
	}
	if n.right < 100 || n.general < 1000 || n.wrong < 1000 {
		t.Error(n)
	}
}
