package lex_test

import (
	"strings"
	"testing"

	"gristmill/lex"
	"gristmill/texts"
)

func wantNames(t *testing.T, s string, name, upper bool) {
	t.Helper()
	if got := lex.Name(s); got != name {
		t.Errorf("Name(%.80q): %v", s, got)
	}
	if got := lex.Upper(s); got != upper {
		t.Errorf("Upper(%.80q): %v", s, got)
	}
}

func reserved() []string {
	return []string{"fn", "let", "case", "fail", "data", "def", "div", "mod", "float", "whole", "seq", "inf", "nan"}
}

func TestNames(t *testing.T) {
	for _, s := range []string{"x", "main", "a_b", "a__", "aB", "zZ9", "x0", "f1_A"} {
		wantNames(t, s, true, false)
	}
	for _, s := range []string{"X", "Int", "Float", "Cons", "A_b", "A__", "ZZ9", "X0", "F1_a"} {
		wantNames(t, s, false, true)
	}
	for _, s := range []string{"", "_", "_a", "_A", "0", "0a", "9A", "-1", "-a", "->", "+", "f+", "f<", "a-b", "A-b", "a'", "A?", "a b", " a", "a ", "A ", "\ta", "a\n", "A\n", "(", "a)", ";a", "a;", "\u00e9", "\u00c9", "a\u00e9", "A\u00e9", "a\u0660", "A\u0301", "\u0430", "\uff41", "a\x00", "A\xff", "\u017f", "\u212a", "k\u212a"} {
		wantNames(t, s, false, false)
	}
}

// Each byte, and each rune of two bytes, at the first place, and behind it.
func TestNamesOfEachByte(t *testing.T) {
	const small, great = "abcdefghijklmnopqrstuvwxyz", "ABCDEFGHIJKLMNOPQRSTUVWXYZ"
	is := func(all, c string) bool { return strings.Contains(all, c) }
	for i := range 256 {
		c := string([]byte{byte(i)})
		rest := is(small+great+"0123456789_", c)
		wantNames(t, c, is(small, c), is(great, c))
		wantNames(t, c+"x", is(small, c), is(great, c))
		wantNames(t, "q"+c, rest, false)
		wantNames(t, "Q"+c, false, rest)
		wantNames(t, "q0"+c+"_", rest, false)
		wantNames(t, "Q0"+c+"_", false, rest)
	}
	for r := rune(0x80); r < 0x800; r++ {
		wantNames(t, string(r), false, false)
		wantNames(t, "q"+string(r), false, false)
		wantNames(t, "Q"+string(r), false, false)
	}
}

func TestNamesOfEachLength(t *testing.T) {
	for n := 1; n <= 100; n++ {
		for _, fill := range []string{"a", "Z", "5", "_"} {
			rest := strings.Repeat(fill, n-1)
			wantNames(t, "a"+rest, n <= 40, false)
			wantNames(t, "A"+rest, false, n <= 40)
		}
	}
	wantNames(t, strings.Repeat("a", 1<<20), false, false)
	wantNames(t, strings.Repeat("A", 1<<20), false, false)
	wantNames(t, strings.Repeat("\u00e9", 20), false, false)
}

func TestReservedWords(t *testing.T) {
	for _, s := range reserved() {
		wantNames(t, s, false, false)
		wantNames(t, s+"s", true, false)
		wantNames(t, s+"_", true, false)
		wantNames(t, "a"+s, true, false)
		wantNames(t, s+s, true, false)
		wantNames(t, strings.ToUpper(s), false, true)
		wantNames(t, strings.ToUpper(s[:1])+s[1:], false, true)
		wantNames(t, s[:1]+strings.ToUpper(s[1:]), true, false)
		wantNames(t, s+" ", false, false)
	}
	// Words that other languages keep for themselves, and words of this one's types and faults, are names here.
	for _, s := range []string{"in", "of", "if", "then", "else", "where", "type", "lambda", "true", "int", "flo", "main", "infinity", "rem", "f", "p", "e"} {
		wantNames(t, s, true, false)
	}
}

// No other short word is kept.
func TestNamesOfAllShortWords(t *testing.T) {
	kept := map[string]bool{}
	for _, s := range reserved() {
		kept[s] = true
	}
	for _, s := range texts.All("abcdefghijklmnopqrstuvwxyz", 4)[1:] {
		if lex.Name(s) == kept[s] || lex.Upper(s) {
			t.Fatalf("%q: Name %v, Upper %v", s, lex.Name(s), lex.Upper(s))
		}
	}
}
