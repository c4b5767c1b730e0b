package num_test

import (
	"slices"
	"testing"

	"gristmill/num"
)

type prim struct {
	name   string
	args   int
	floaty bool
}

// chapter is the prims in the order of the chapter, with what it says of each.
func chapter() []prim {
	return []prim{
		{"+", 2, false}, {"-", 2, false}, {"*", 2, false}, {"div", 2, false}, {"mod", 2, false}, {"<", 2, false}, {"=", 2, false},
		{"f+", 2, true}, {"f-", 2, true}, {"f*", 2, true}, {"f/", 2, true}, {"f<", 2, false}, {"f=", 2, false},
		{"float", 1, true}, {"whole", 1, false}, {"seq", 2, false},
	}
}

func TestPrimsInOrder(t *testing.T) {
	var want []string
	for _, p := range chapter() {
		want = append(want, p.name)
	}
	if got := num.Prims(); !slices.Equal(got, want) {
		t.Errorf("Prims: %q, want %q", got, want)
	}
}

func TestPrimsIsNewMemory(t *testing.T) {
	want := num.Prims()
	a := num.Prims()
	clear(a[:cap(a)])
	_ = append(a[:0], "x", "y")
	if got := num.Prims(); !slices.Equal(got, want) {
		t.Errorf("Prims after writing into an answer: %q", got)
	}
	if n, ok := num.Arity("+"); n != 2 || !ok {
		t.Errorf("Arity after writing into an answer: %d, %v", n, ok)
	}
}

func TestArityAndFloaty(t *testing.T) {
	for _, p := range chapter() {
		if n, ok := num.Arity(p.name); n != p.args || !ok {
			t.Errorf("Arity(%q): %d, %v", p.name, n, ok)
		}
		if num.Floaty(p.name) != p.floaty {
			t.Errorf("Floaty(%q): %v", p.name, !p.floaty)
		}
	}
}

func TestArityAndFloatyOfNoPrim(t *testing.T) {
	for _, name := range []string{"", " ", "x", "f", "f+ ", " f+", "f++", "fdiv", "fmod", "F+", "Float", "floats", "flo", "wholes", "/", "+f", "seq ", "\x00", "f+\x00", "\xff"} {
		if n, ok := num.Arity(name); n != 0 || ok {
			t.Errorf("Arity(%q): %d, %v", name, n, ok)
		}
		if num.Floaty(name) {
			t.Errorf("Floaty(%q)", name)
		}
	}
}

// What Do reckons are just those prims of two arguments whose names come before the floats'.
func TestDoKnowsTheWholePrims(t *testing.T) {
	for i, name := range num.Prims() {
		if _, _, ok := num.Do(name, 6, 3); ok != (i < 7) {
			t.Errorf("Do(%q): %v", name, ok)
		}
	}
}
