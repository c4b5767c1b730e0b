package lex_test

import (
	"regexp"
	"slices"
	"strings"
	"testing"
	"unsafe"

	"gristmill/api"
	"gristmill/lex"
	"gristmill/texts"
)

func wantWords(t *testing.T, s string, want ...lex.Word) {
	t.Helper()
	if l, err := lex.Words(s); !slices.Equal(l, want) || err != nil {
		t.Errorf("Words(%.80q): %+v, %v; want %+v", s, l, err, want)
	}
}

func TestWords(t *testing.T) {
	for _, x := range []struct {
		s    string
		want []lex.Word
	}{
		{"(a b)", []lex.Word{{"(", 0}, {"a", 1}, {"b", 3}, {")", 4}}},
		{"(def main (+ 1 2))", []lex.Word{{"(", 0}, {"def", 1}, {"main", 5}, {"(", 10}, {"+", 11}, {"1", 13}, {"2", 15}, {")", 16}, {")", 17}}},
		{"", nil}, {" ", nil}, {" \t\n\r\r\n", nil},
		{"x", []lex.Word{{"x", 0}}}, {"\t x\r\n", []lex.Word{{"x", 2}}},
		{"ab\tcd\nef\rgh ij", []lex.Word{{"ab", 0}, {"cd", 3}, {"ef", 6}, {"gh", 9}, {"ij", 12}}},
		{"()", []lex.Word{{"(", 0}, {")", 1}}}, {")((", []lex.Word{{")", 0}, {"(", 1}, {"(", 2}}},
		{"a(b)c", []lex.Word{{"a", 0}, {"(", 1}, {"b", 2}, {")", 3}, {"c", 4}}},
		{"-1.5e3 [x]{y},\"z\" `'#//\\", []lex.Word{{"-1.5e3", 0}, {"[x]{y},\"z\"", 7}, {"`'#//\\", 18}}},
		{"\u00e9\u00a0\u00fc \u6f22", []lex.Word{{"\u00e9\u00a0\u00fc", 0}, {"\u6f22", 7}}},
	} {
		wantWords(t, x.s, x.want...)
	}
}

func TestWordsLeavesOutTheRestOfALine(t *testing.T) {
	for _, x := range []struct {
		s    string
		want []lex.Word
	}{
		{";", nil}, {";\n", nil}, {"; (a) ; b", nil}, {"\n;a", nil}, {";;\n;", nil},
		{";a\nb", []lex.Word{{"b", 3}}},
		{"a;b\nc", []lex.Word{{"a", 0}, {"c", 4}}},
		{"a ;b (c);d\r\n(e", []lex.Word{{"a", 0}, {"(", 12}, {"e", 13}}},
		{"(;)\n)", []lex.Word{{"(", 0}, {")", 4}}},
		{"a;b\rc\nd", []lex.Word{{"a", 0}, {"d", 6}}}, // a line ends with a line feed alone
		{";\n\n;\n x;", []lex.Word{{"x", 6}}},
		{";\u00e9\xff\x00\nf", []lex.Word{{"f", 6}}},
	} {
		wantWords(t, x.s, x.want...)
	}
}

func TestWordsOfEachByte(t *testing.T) {
	for i := range 256 {
		c := string([]byte{byte(i)})
		switch c {
		case " ", "\t", "\n", "\r":
			wantWords(t, c)
			wantWords(t, "a"+c+"b", lex.Word{"a", 0}, lex.Word{"b", 2})
		case "(", ")":
			wantWords(t, c, lex.Word{c, 0})
			wantWords(t, "a"+c+"b", lex.Word{"a", 0}, lex.Word{c, 1}, lex.Word{"b", 2})
		case ";":
			wantWords(t, c)
			wantWords(t, "a"+c+"b", lex.Word{"a", 0})
		default:
			wantWords(t, c, lex.Word{c, 0})
			wantWords(t, "a"+c+"b", lex.Word{"a" + c + "b", 0})
		}
	}
}

func TestWordsOfAllShortTexts(t *testing.T) {
	piece := regexp.MustCompile(`;[^\n]*|[ \t\n\r]+|[()]|[^() \t\n\r;]+`)
	for _, s := range texts.All("a\xff(); \t\n\r", 5) {
		var want []lex.Word
		for _, p := range piece.FindAllStringIndex(s, -1) {
			if text := s[p[0]:p[1]]; strings.Trim(text, " \t\n\r") != "" && text[0] != ';' {
				want = append(want, lex.Word{text, p[0]})
			}
		}
		wantWords(t, s, want...)
	}
}

func TestWordsAtMaxText(t *testing.T) {
	for _, unit := range []string{" ", "a", "(", ";", "a ", "\n", ";\n", "\u00e9"} {
		s := strings.Repeat(unit, api.MaxText+1)
		if l, err := lex.Words(s[:api.MaxText]); err != nil || len(l) > 0 && l[0].Pos != 0 {
			t.Errorf("MaxText bytes of %q: %v", unit, err)
		}
		for _, n := range []int{api.MaxText + 1, len(s)} {
			if l, err := lex.Words(s[:n]); err != api.ErrMany || len(l) > 0 {
				t.Errorf("%d bytes of %q: %d words, %v", n, unit, len(l), err)
			}
		}
	}
	long := strings.Repeat("a", api.MaxText)
	wantWords(t, long, lex.Word{long, 0})
	wantWords(t, long[1:]+")", lex.Word{long[1:], 0}, lex.Word{")", api.MaxText - 1})
	if l, err := lex.Words(strings.Repeat(")", api.MaxText)); len(l) != api.MaxText || err != nil || l[api.MaxText-1] != (lex.Word{")", api.MaxText - 1}) {
		t.Errorf("MaxText brackets: %d words, %v", len(l), err)
	}
	if l, err := lex.Words(long[2:] + ";\n)"); l != nil || err != api.ErrMany {
		t.Errorf("MaxText + 1 bytes: %d words, %v", len(l), err)
	}
}

func TestWordsIsNewMemory(t *testing.T) {
	s := "(a b) ; c\n(d)"
	want, _ := lex.Words(s)
	a, _ := lex.Words(s)
	clear(a[:cap(a)])
	_ = append(a[:0], lex.Word{"x", 9})
	wantWords(t, s, slices.Clone(want)...)
	if !slices.Contains(want, lex.Word{"d", 11}) {
		t.Errorf("an answer after writing into another one: %+v", want)
	}
}

// A word that is kept does not keep the text that it was read from.
func TestWordsSharesNoMemoryWithTheText(t *testing.T) {
	s := "ab (cd) ;e\nf"
	l, _ := lex.Words(s)
	for _, w := range l {
		if unsafe.StringData(w.Text) == unsafe.StringData(s[w.Pos:]) {
			t.Errorf("word %q lies in the text", w.Text)
		}
	}
}
