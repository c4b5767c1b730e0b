package types_test

import (
	"slices"
	"strings"
	"testing"

	"gristmill/api"
	"gristmill/lex"
	"gristmill/texts"
	"gristmill/tree"
	"gristmill/types"
)

// wantParse holds that each text is that of a type that may be, or that none is.
func wantParse(t *testing.T, is bool, l ...string) {
	t.Helper()
	for _, s := range l {
		x, err := types.Parse(s)
		switch {
		case !is && (err != api.ErrForm || !types.Same(x, api.Type{})):
			t.Errorf("%.300q: %.300q, %v", s, types.Text(x), err)
		case is && (err != nil || !types.Is(x) || types.Text(x) != s):
			t.Errorf("%.300q: %.300q, %v, %v", s, types.Text(x), types.Is(x), err)
		}
	}
}

func TestText(t *testing.T) {
	for _, x := range []struct {
		t    api.Type
		want string
	}{
		{ty("a"), "a"}, {ty("Int"), "Int"}, {ty("L", ty("a")), "(L a)"}, {ty("->", ty("Int"), ty("Int")), "(-> Int Int)"}, {ty("P", ty("L", ty("a")), ty("P", ty("b"), ty("T"))), "(P (L a) (P b T))"},
		// Those that may not be, too.
		{api.Type{}, ""}, {ty("->"), "->"}, {ty("a", ty("b")), "(a b)"}, {ty("->", ty("a")), "(-> a)"}, {ty("", ty(""), ty("")), "(  )"}, {api.Type{Name: "L", Args: []api.Type{}}, "L"},
	} {
		want(t, x.want, types.Text(x.t), x.want)
	}
	want(t, "a deep one", types.Text(nest(1<<16, ty("a"))), strings.Repeat("(L ", 1<<16)+"a"+strings.Repeat(")", 1<<16))
}

func TestParse(t *testing.T) {
	x := read(t, "(P (L a) (-> b Int))")
	if !types.Same(x, ty("P", ty("L", ty("a")), ty("->", ty("b"), ty("Int")))) {
		t.Error(x)
	}
	wantParse(t, true, "a", "Int", "T_1", "(L a)", "(-> a b)", "(-> (-> a b) (-> (L a) (L b)))", "(T a b c d e)", "(Int Int)", "(Float a b)", "(L (L (L L)))")
	wantParse(t, false,
		"", " ", "(", ")", "()", "( )", "(a)", "(Int)", "((L) a)", "((L a))", "(a b)", "(-> a)", "(-> a b c)", "->", "(->)", "(-> )",
		" a", "a ", "\ta", "a\n", "a\r", "(L  a)", "( L a)", "(L a )", "(L\ta)", "(L\na)", "(L a) ", " (L a)", "(L a)\n", "(L a);", "a;b", "(L a ;b\n)",
		"(L a", "L a", "L a)", "(L a))", "(L (M a)", "(L(M a))", "(L (M a)b)", "(L a(M b))", "(L a)(L b)", "(L a) (L b)", "a b", "a(", "a)", "(L",
		"+", "fn", "(L fn)", "(fn a)", "(+ a b)", "1", "(L 1)", "(1 a)", "_", "(L _)", "(L a.)", "a\x00", "\u00e9", "(L \u00e9)", "a\u00a0", "(L\u00a0a)", "(- > a b)", "(-> a (-> b))", "(L ())", "(L a ())",
		strings.Repeat("q", 41), "(L "+strings.Repeat("Q", 41)+")")
	wantParse(t, true, strings.Repeat("q", 40), "(L "+strings.Repeat("Q", 40)+")")
}

func TestParseAtTheLimits(t *testing.T) {
	wantParse(t, true, types.Text(nest(api.MaxDeep-1, ty("a"))), types.Text(wide(api.MaxSize-1)), types.Text(ty("P", nest(api.MaxDeep-2, ty("a")), wide(api.MaxSize-202), ty("b"))))
	wantParse(t, false, types.Text(nest(api.MaxDeep, ty("a"))), types.Text(wide(api.MaxSize)), types.Text(ty("P", nest(api.MaxDeep-1, ty("a")), ty("a"))), types.Text(ty("P", nest(api.MaxDeep-2, ty("a")), wide(api.MaxSize-201), ty("b"))))
	// Longer than a program may be: as many types as there may be, of names as long as there may be.
	name := strings.Repeat("N", 40)
	long := "(" + name + strings.Repeat(" "+name, api.MaxSize-1) + ")"
	if len(long) < 12*api.MaxText {
		t.Fatal(len(long))
	}
	wantParse(t, true, long)
	wantParse(t, false, long[1:], long[:len(long)-1], long+" ", long+")", strings.Replace(long, " ", "  ", 1), long[:len(long)-1]+" )")
	// Longer than that of any type that may be.
	for _, unit := range []string{"a", "A", "(", "(L ", "(L a) ", "a ", ")", " ", "L a ", "\x00", "(-> a "} {
		s := strings.Repeat(unit, 1<<20)
		wantParse(t, false, s, "(L "+s, "(L "+s+")", "(L"+s+")", "(L a"+s+")")
	}
}

// modelParse is the type of the text by what the brackets are to package tree; false, if it may not be, or has another text.
func modelParse(s string) (t api.Type, ok bool) {
	nodes, err := tree.Parse(s)
	if err != nil || len(nodes) != 1 || tree.Text(nodes...) != s {
		return api.Type{}, false
	}
	return modelType(nodes[0])
}

func modelType(n tree.Node) (t api.Type, ok bool) {
	switch {
	case n.Word != "":
		return ty(n.Word), lex.Name(n.Word) || lex.Upper(n.Word)
	case len(n.L) < 2 || !lex.Upper(n.L[0].Word) && (n.L[0].Word != "->" || len(n.L) != 3):
		return api.Type{}, false
	}
	t = ty(n.L[0].Word)
	for _, part := range n.L[1:] {
		arg, ok := modelType(part)
		if !ok {
			return api.Type{}, false
		}
		t.Args = append(t.Args, arg)
	}
	return t, true
}

// counts counts the texts that were those of a type, and the others.
type counts struct{ right, wrong int }

func (c *counts) hold(t *testing.T, s string) {
	t.Helper()
	x, is := modelParse(s)
	wantParse(t, is, s)
	if !is {
		c.wrong++
		return
	}
	c.right++
	if got, _ := types.Parse(s); !types.Same(got, x) {
		t.Errorf("%q: %v; want %v", s, got, x)
	}
}

func TestParseOfAllShortTexts(t *testing.T) {
	var c counts
	for _, s := range texts.All("( )aL\n", 6) {
		c.hold(t, s)
	}
	for _, s := range texts.All("->( a)", 6) {
		c.hold(t, "("+s+")")
	}
	if c.right < 130 || c.wrong < 100000 {
		t.Error(c)
	}
}

// Right texts with a piece left out, put in, or put in place of another one.
func TestParseOfAlteredTexts(t *testing.T) {
	var c counts
	pieces := []string{"", "(", ")", " ", "->", "a", "L", "fn", "1", "_", ";", "\t", "(-> ", "(L ", " b", ") (", "+"}
	for _, s := range []string{"(P (L a) (-> b Int))", "(-> (-> a b) (-> (L a) (T b c d)))", "(T A (P q_1 (L (L x))) a)", "(L a)", "x"} {
		for _, altered := range texts.Altered(s, 4, pieces...) {
			c.hold(t, altered)
		}
	}
	if c.right < 500 || c.wrong < 5000 {
		t.Error(c)
	}
}

// A type that is kept does not keep the text that it was read from, nor do two lists of it share room.
func TestParseIsNewMemory(t *testing.T) {
	s := "(P (L a) (-> b Int))"
	x, y := read(t, s), read(t, s)
	wantApart(t, x.Args, y.Args, x.Args[0].Args, y.Args[0].Args, x.Args[1].Args, y.Args[1].Args)
	if names := namesOf(x); slices.ContainsFunc(names, func(name string) bool { return liesIn(name, s) }) {
		t.Errorf("a name of %q lies in the text", names)
	}
}
