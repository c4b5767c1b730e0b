package texts_test

import (
	"slices"
	"testing"

	"gristmill/texts"
)

func TestAll(t *testing.T) {
	for _, x := range []struct {
		alphabet string
		n        int
		want     []string
	}{
		{"ab", 2, []string{"", "a", "b", "aa", "ab", "ba", "bb"}},
		{"a\xff", 1, []string{"", "a", "\xff"}},
		{"a", 3, []string{"", "a", "aa", "aaa"}},
		{"ab", 0, []string{""}}, {"ab", -1, []string{""}}, {"", 3, []string{""}},
	} {
		if got := texts.All(x.alphabet, x.n); !slices.Equal(got, x.want) {
			t.Errorf("All(%q, %d): %q", x.alphabet, x.n, got)
		}
	}
}

func TestAltered(t *testing.T) {
	for _, x := range []struct {
		s      string
		n      int
		pieces []string
		want   []string
	}{
		{"ab", 1, []string{"", "xy"}, []string{"ab", "xyab", "b", "xyb", "ab", "axyb", "a", "axy", "ab", "abxy"}},
		{"abc", 2, []string{"-"}, []string{"-abc", "-bc", "-c", "a-bc", "a-c", "a-", "ab-c", "ab-", "abc-"}},
		{"ab", 9, []string{"-"}, []string{"-ab", "-b", "-", "a-b", "a-", "ab-"}},
		{"ab", 0, []string{"-"}, []string{"-ab", "a-b", "ab-"}},
		{"", 4, []string{"-", "x"}, []string{"-", "x"}}, {"ab", 4, nil, nil}, {"ab", -1, []string{"-"}, nil},
	} {
		if got := texts.Altered(x.s, x.n, x.pieces...); !slices.Equal(got, x.want) {
			t.Errorf("Altered(%q, %d, %q): %q", x.s, x.n, x.pieces, got)
		}
	}
}
