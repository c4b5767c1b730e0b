package tree_test

import (
	"regexp"
	"slices"
	"strings"
	"testing"

	"gristmill/api"
	"gristmill/texts"
	"gristmill/tree"
)

// w is a word, b a list in brackets.
func w(pos int, s string) tree.Node { return tree.Node{Word: s, Pos: pos} }

func b(pos int, l ...tree.Node) tree.Node { return tree.Node{L: l, Pos: pos} }

func open(n int) string { return strings.Repeat("(", n) }

func shut(n int) string { return strings.Repeat(")", n) }

// equal is whether a and c are the same, places too.
func equal(a, c []tree.Node) bool {
	return slices.EqualFunc(a, c, func(x, y tree.Node) bool {
		return x.Word == y.Word && x.Pos == y.Pos && equal(x.L, y.L)
	})
}

func wantNodes(t *testing.T, s string, want ...tree.Node) {
	t.Helper()
	if l, err := tree.Parse(s); !equal(l, want) || err != nil {
		t.Errorf("Parse(%.80q): %.300v, %v; want %.300v", s, l, err, want)
	}
}

// wantError holds what Parse answers against an At around want, and against want itself, if pos is below 0.
func wantError(t *testing.T, s string, pos int, want error) {
	t.Helper()
	l, err := tree.Parse(s)
	at, placed := err.(*api.At)
	if len(l) > 0 || placed != (pos >= 0) || placed && *at != (api.At{Pos: pos, Err: want}) || !placed && err != want {
		t.Errorf("Parse(%.80q): %.300v, %v; want %d: %v", s, l, err, pos, want)
	}
}

func TestParse(t *testing.T) {
	for _, x := range []struct {
		s    string
		want []tree.Node
	}{
		{"( a  (b))", []tree.Node{b(0, w(2, "a"), b(5, w(6, "b")))}},
		{"(def main (+ 1 2))", []tree.Node{b(0, w(1, "def"), w(5, "main"), b(10, w(11, "+"), w(13, "1"), w(15, "2")))}},
		{"", nil}, {" \t\r\n", nil}, {"; (", nil}, {"x", []tree.Node{w(0, "x")}}, {"\tx ", []tree.Node{w(1, "x")}},
		{"a b\nc", []tree.Node{w(0, "a"), w(2, "b"), w(4, "c")}},
		{"()", []tree.Node{b(0)}}, {" ( ) ", []tree.Node{b(1)}}, {"()()", []tree.Node{b(0), b(2)}}, {"(())", []tree.Node{b(0, b(1))}},
		{"a(b)c", []tree.Node{w(0, "a"), b(1, w(2, "b")), w(4, "c")}},
		{"(a)(b (c) d)e", []tree.Node{b(0, w(1, "a")), b(3, w(4, "b"), b(6, w(7, "c")), w(10, "d")), w(12, "e")}},
		{"(()x(()y))", []tree.Node{b(0, b(1), w(3, "x"), b(4, b(5), w(7, "y")))}},
		{"(a;)\n)", []tree.Node{b(0, w(1, "a"))}}, {";(\n(b ; c)\n)", []tree.Node{b(3, w(4, "b"))}},
		{"[(])", []tree.Node{w(0, "["), b(1, w(2, "]"))}},
		{"(\u00e9 \xff)", []tree.Node{b(0, w(1, "\u00e9"), w(4, "\xff"))}},
	} {
		wantNodes(t, x.s, x.want...)
	}
}

func TestParseWrongBrackets(t *testing.T) {
	for _, x := range []struct {
		s   string
		pos int
		err error
	}{
		{")", 0, api.ErrClose}, {" )", 1, api.ErrClose}, {"a )", 2, api.ErrClose}, {"())", 2, api.ErrClose}, {"(a))(", 3, api.ErrClose},
		{")(", 0, api.ErrClose}, {"))", 0, api.ErrClose}, {";)\n)", 3, api.ErrClose}, {"(a) b) c)", 5, api.ErrClose},
		{"(", 0, api.ErrOpen}, {" (", 1, api.ErrOpen}, {"((", 1, api.ErrOpen}, {"(a (b", 3, api.ErrOpen}, {"((a)", 0, api.ErrOpen},
		{"(a) (b (c) (d", 11, api.ErrOpen}, {"(a) (b (c) d", 4, api.ErrOpen}, {"(;)", 0, api.ErrOpen}, {"(()()", 0, api.ErrOpen},
		{"() ((x) (y) ", 3, api.ErrOpen},
	} {
		wantError(t, x.s, x.pos, x.err)
	}
}

func TestParseAtMaxDeep(t *testing.T) {
	const n = api.MaxDeep
	for _, s := range []string{open(n) + shut(n), open(n) + " a " + shut(n), "() a " + open(n) + shut(n) + open(n) + shut(n), open(n) + shut(1) + open(1) + shut(n)} {
		if l, err := tree.Parse(s); err != nil || tree.Deep(l...) != n {
			t.Errorf("Parse(%.80q): %v, %d deep", s, err, tree.Deep(l...))
		}
	}
	wantError(t, open(n), n-1, api.ErrOpen)
	wantError(t, open(n+1), n, api.ErrDeep)
	wantError(t, open(n+2)+shut(n+2), n, api.ErrDeep)
	wantError(t, open(n+1)+shut(n+2), n, api.ErrDeep)
	wantError(t, open(n)+shut(n+1), 2*n, api.ErrClose)
	wantError(t, open(n)+shut(n+1)+open(n+1), 2*n, api.ErrClose)
	wantError(t, open(n)+shut(1)+" a (b (c", n+7, api.ErrDeep)
	wantError(t, strings.Repeat(" (\n", n+1), 3*n+1, api.ErrDeep)
}

func TestParseAtMaxText(t *testing.T) {
	const n = api.MaxText
	long := strings.Repeat("a", n)
	wantNodes(t, long, w(0, long))
	wantNodes(t, "("+long[2:]+")", b(0, w(1, long[2:])))
	wantError(t, long[1:]+")", n-1, api.ErrClose)
	wantError(t, long[1:]+"(", n-1, api.ErrOpen)
	for _, s := range []string{long + "a", long + ")", ")" + long, open(n + 1), strings.Repeat(" ", n+1), ";" + long, open(n/2) + shut(n/2+1)} {
		wantError(t, s, -1, api.ErrMany)
	}
	l, err := tree.Parse(strings.Repeat("()", n/2))
	if len(l) != n/2 || err != nil || l[n/2-1].Pos != n-2 {
		t.Errorf("MaxText brackets: %d nodes, %v", len(l), err)
	}
}

// model is what a text has, without nodes.
type model struct {
	words []tree.Node // the brackets of both kinds among them
	deep  []int       // how many brackets are open behind each word
}

var piece = regexp.MustCompile(`;[^\n]*|[ \n]+|[()]|[^() \n;]+`)

func modelOf(s string) (m model) {
	deep := 0
	for _, p := range piece.FindAllStringIndex(s, -1) {
		text := s[p[0]:p[1]]
		if text[0] == ';' || text[0] == ' ' || text[0] == '\n' {
			continue
		}
		deep += strings.Count(text, "(") - strings.Count(text, ")")
		m.words = append(m.words, w(p[0], text))
		m.deep = append(m.deep, deep)
	}
	return m
}

// fault is the first of the errors that the text has; nil: none.
func (m model) fault() *api.At {
	for i, x := range m.words {
		if m.deep[i] < 0 {
			return &api.At{Pos: x.Pos, Err: api.ErrClose}
		}
		if m.deep[i] > api.MaxDeep {
			return &api.At{Pos: x.Pos, Err: api.ErrDeep}
		}
	}
	for i, x := range slices.Backward(m.words) {
		if x.Word == "(" && slices.Min(m.deep[i:]) >= m.deep[i] {
			return &api.At{Pos: x.Pos, Err: api.ErrOpen}
		}
	}
	return nil
}

// text is what Text has to be of a text without a fault.
func (m model) text() string {
	var l []string
	for _, x := range m.words {
		l = append(l, x.Word)
	}
	s := strings.Join(l, " ")
	return strings.ReplaceAll(strings.ReplaceAll(s, "( ", "("), " )", ")")
}

// spread is each node ahead of what it has, without lists, as the words of a text without those that close one.
func spread(l []tree.Node) (out []tree.Node) {
	for _, n := range l {
		if n.Word == "" {
			out = append(out, w(n.Pos, "("))
		} else {
			out = append(out, w(n.Pos, n.Word))
		}
		out = append(out, spread(n.L)...)
	}
	return out
}

func checkAgainstModel(t *testing.T, s string) {
	t.Helper()
	m := modelOf(s)
	if at := m.fault(); at != nil {
		wantError(t, s, at.Pos, at.Err)
		return
	}
	l, err := tree.Parse(s)
	text := tree.Text(l...)
	if err != nil || text != m.text() || tree.Deep(l...) != slices.Max(append(m.deep, 0)) {
		t.Fatalf("Parse(%q): %v, Text %q, %d deep; want %q", s, err, text, tree.Deep(l...), m.text())
	}
	opening := slices.DeleteFunc(m.words, func(n tree.Node) bool { return n.Word == ")" })
	if !equal(spread(l), opening) {
		t.Fatalf("Parse(%q): %v", s, l)
	}
	again, err := tree.Parse(text)
	if err != nil || !tree.Same(l, again) || !tree.Same(again, l) || tree.Text(again...) != text {
		t.Fatalf("%q: Text %q, read again %v, %v", s, text, again, err)
	}
}

func TestParseOfAllShortTexts(t *testing.T) {
	for _, s := range texts.All("a(); \n", 6) {
		checkAgainstModel(t, s)
	}
	for _, s := range texts.All("x()", 9) {
		checkAgainstModel(t, s)
	}
}

func TestParseOfAllShortTextsNearMaxDeep(t *testing.T) {
	const n = api.MaxDeep - 2
	for _, s := range texts.All("() a", 5) {
		checkAgainstModel(t, open(n)+s)
		checkAgainstModel(t, open(n)+s+shut(n))
		checkAgainstModel(t, open(n)+s+shut(n+1))
	}
}

// The text of what was read may be longer than what was read, and then it is too long to be read.
func TestParseOfATextThatIsTooLong(t *testing.T) {
	for _, n := range []int{21845, 21846} {
		l, err := tree.Parse(strings.Repeat("()", n))
		text := tree.Text(l...)
		if err != nil || len(l) != n || len(text) != 3*n-1 {
			t.Fatalf("%d lists: %d, %v, %d bytes", n, len(l), err, len(text))
		}
		again, err := tree.Parse(text)
		if len(text) > api.MaxText {
			wantError(t, text, -1, api.ErrMany)
		} else if err != nil || !tree.Same(l, again) {
			t.Errorf("%d lists, read again: %v", n, err)
		}
	}
}

// lists is l and each list within it.
func lists(l []tree.Node) [][]tree.Node {
	out := [][]tree.Node{l}
	for _, n := range l {
		out = append(out, lists(n.L)...)
	}
	return out
}

const manyLists = "a (b c d) () ((e) f (g h (i) j k) () ((l m) n)) o (p (q)) (r) (s () ()) (() t u () () v ()) (() (()))"

func TestParseIsNewMemory(t *testing.T) {
	want, _ := tree.Parse(manyLists)
	text := tree.Text(want...)
	for i := range lists(want) {
		l, _ := tree.Parse(manyLists)
		one := lists(l)[i]
		_ = append(one, w(99, "x"))
		for j := range one[len(one):cap(one)] {
			one[len(one):cap(one)][j] = w(99, "y")
		}
		if got := tree.Text(l...); got != text {
			t.Errorf("list %d has grown: %s", i, got)
		}
	}
	l, _ := tree.Parse(manyLists)
	for _, one := range lists(l) {
		clear(one[:cap(one)])
	}
	if got, _ := tree.Parse(manyLists); !equal(got, want) || tree.Text(want...) != text {
		t.Errorf("an answer after writing into another one: %v", got)
	}
}

// Writing into one list of an answer changes no other list of it.
func TestParseSharesNoMemoryWithinAnAnswer(t *testing.T) {
	l, _ := tree.Parse(manyLists)
	all := lists(l)
	for i, one := range all {
		for j, other := range all {
			full := one[:cap(one)]
			kept := slices.Clone(other[:cap(other)])
			saved := slices.Clone(full)
			for k := range full {
				full[k] = w(77, "z")
			}
			if i != j && !equal(other[:cap(other)], kept) {
				t.Errorf("lists %d and %d share memory", i, j)
			}
			copy(full, saved)
		}
	}
}
