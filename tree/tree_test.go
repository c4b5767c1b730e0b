package tree_test

import (
	"slices"
	"strings"
	"testing"

	"gristmill/api"
	"gristmill/tree"
)

func TestText(t *testing.T) {
	for _, x := range []struct {
		l    []tree.Node
		want string
	}{
		{nil, ""}, {[]tree.Node{}, ""},
		{[]tree.Node{w(3, "a")}, "a"}, {[]tree.Node{w(3, "a"), w(0, "b"), w(9, "c")}, "a b c"},
		{[]tree.Node{{}}, "()"}, {[]tree.Node{{L: []tree.Node{}}}, "()"}, {[]tree.Node{{}, {}}, "() ()"}, {[]tree.Node{b(0, b(0))}, "(())"},
		{[]tree.Node{b(0, w(0, "a"))}, "(a)"}, {[]tree.Node{b(0, w(0, "a"), w(0, "b"))}, "(a b)"},
		{[]tree.Node{b(5, w(1, "a"), b(2, w(0, "b")))}, "(a (b))"},
		{[]tree.Node{w(0, "x"), b(0, b(0), b(0, w(0, "y"), b(0), w(0, "z")), b(0)), w(0, "-1")}, "x (() (y () z) ()) -1"},
		{[]tree.Node{w(-1, "\u00e9"), w(1<<62, "a b"), w(0, ")")}, "\u00e9 a b )"},
		{[]tree.Node{{Word: "a", L: []tree.Node{{Word: "b"}}}}, "a"},
	} {
		if got := tree.Text(x.l...); got != x.want {
			t.Errorf("Text(%v): %q; want %q", x.l, got, x.want)
		}
	}
	if got := tree.Text(); got != "" {
		t.Errorf("Text(): %q", got)
	}
	if got := tree.Text(b(0, w(0, "a")), w(0, "b")); got != "(a) b" {
		t.Errorf("Text of two: %q", got)
	}
}

func TestSame(t *testing.T) {
	texts := []string{"", "a", "b", "A", "aa", "a b", "b a", "a a", "()", "() ()", "(())", "(a)", "(b)", "(a b)", "(a c)", "(a (b))", "((a) b)", "((a b))", "(a) b", "a (b)", "(a) (b)", "((a)) (b)", "(a) ((b))", "(a b c)", "(a b) c", "(a (b c))", "((()))", "(() ())"}
	for i, s := range texts {
		for j, r := range texts {
			a, _ := tree.Parse(s)
			c, _ := tree.Parse(" ;(\n" + strings.ReplaceAll(r, " ", "\t ") + " ")
			if tree.Same(a, c) != (i == j) || tree.Same(c, a) != (i == j) {
				t.Errorf("Same of %q and %q", s, r)
			}
		}
	}
}

func TestSameButForPlaces(t *testing.T) {
	a := []tree.Node{w(0, "a"), b(2, w(3, "b"), b(5, w(6, "c")))}
	c := []tree.Node{w(9, "a"), b(-1, w(0, "b"), b(1<<40, w(0, "c")))}
	if !tree.Same(a, c) || !tree.Same(a, a) || !tree.Same(nil, nil) {
		t.Error("not the Same where only places differ")
	}
	if !tree.Same(nil, []tree.Node{}) || !tree.Same([]tree.Node{{}}, []tree.Node{{L: []tree.Node{}}}) {
		t.Error("not the Same: nil and the empty list")
	}
	if tree.Same(nil, []tree.Node{{}}) || tree.Same([]tree.Node{{}}, nil) {
		t.Error("the Same: no node and an empty list")
	}
	if x := (tree.Node{Word: "a", L: []tree.Node{{Word: "b"}}}); tree.Same([]tree.Node{x}, []tree.Node{w(0, "a")}) || !tree.Same([]tree.Node{x}, []tree.Node{x}) {
		t.Error("not all but places is held against each other")
	}
}

func TestDeep(t *testing.T) {
	for _, x := range []struct {
		s    string
		want int
	}{
		{"", 0}, {"a", 0}, {"a b c", 0}, {"()", 1}, {"() () ()", 1}, {"(a b)", 1}, {"(a) b (c)", 1}, {"( a  (b))", 2}, {"(())", 2}, {"(() () ())", 2},
		{"((a)) (b) c", 2}, {"(b) ((a))", 2}, {"(a (b (c) d) (e))", 3}, {"(a (b) (e (f)) g)", 3}, {"x (((y))) ((z))", 3},
	} {
		l, err := tree.Parse(x.s)
		if got := tree.Deep(l...); got != x.want || err != nil {
			t.Errorf("Deep of %q: %d, %v; want %d", x.s, got, err, x.want)
		}
	}
	if got := tree.Deep(); got != 0 {
		t.Errorf("Deep(): %d", got)
	}
	if got := tree.Deep(tree.Node{}, w(0, "a"), b(0, b(0))); got != 2 {
		t.Errorf("Deep of three: %d", got)
	}
	if got := tree.Deep(tree.Node{Word: "a", L: []tree.Node{{}}}); got != 0 {
		t.Errorf("Deep of a word: %d", got)
	}
}

// within is a node within n lists.
func within(n int, x tree.Node) tree.Node {
	for range n {
		x = b(n, x)
	}
	return x
}

// Nodes made by hand may be deeper than what is read.
func TestDeepNodes(t *testing.T) {
	for _, n := range []int{api.MaxDeep, api.MaxDeep + 1, 1<<16 - 1} {
		x, y := within(n, w(0, "x")), within(n, w(1, "y"))
		if got := tree.Deep(w(0, "a"), x); got != n {
			t.Errorf("Deep: %d; want %d", got, n)
		}
		if got := tree.Text(x); got != open(n)+"x"+shut(n) {
			t.Errorf("Text of %d deep: %.20s", n, got)
		}
		if !tree.Same([]tree.Node{x}, []tree.Node{within(n, w(1, "x"))}) || tree.Same([]tree.Node{x}, []tree.Node{y}) {
			t.Errorf("Same of %d deep", n)
		}
	}
	wantError(t, tree.Text(within(api.MaxDeep+1, w(0, "x"))), api.MaxDeep, api.ErrDeep)
}

func TestWideNodes(t *testing.T) {
	const n = 200000
	l := slices.Repeat([]tree.Node{w(0, "ab"), b(0)}, n/2)
	if got := tree.Text(l...); got != strings.Repeat("ab () ", n/2)[:3*n-1] {
		t.Errorf("Text of %d nodes: %d bytes", n, len(got))
	}
	if tree.Deep(l...) != 1 || tree.Deep(b(0, l...)) != 2 {
		t.Error("Deep of many nodes")
	}
	if c := slices.Clone(l); !tree.Same(l, c) || tree.Same(l, c[1:]) || tree.Same(l[1:], c[:n-1]) {
		t.Error("Same of many nodes")
	}
}

// Neither what is handed in nor what lies behind it is written or read.
func TestArgumentsStay(t *testing.T) {
	mem := []tree.Node{w(0, "a"), b(1, w(2, "b"), b(3)), w(4, "c"), b(5, b(6))}
	inner := mem[1].L
	mem[1].L = inner[:1]
	want := slices.Clone(mem)
	l := mem[:2]
	if tree.Text(l...) != "a (b)" || tree.Deep(l...) != 1 || !tree.Same(l, mem[:2:2]) || tree.Same(l, mem) {
		t.Error("what lies behind a list was read")
	}
	if !equal(mem, want) || !equal(inner, []tree.Node{w(2, "b"), b(3)}) {
		t.Errorf("what was handed in was changed: %v", mem)
	}
}
