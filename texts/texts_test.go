package texts_test

import (
	"slices"
	"testing"

	"gristmill/texts"
)

func TestAll(t *testing.T) {
	for _, x := range []struct {
		alphabet string
		n        int
		want     []string
	}{
		{"ab", 2, []string{"", "a", "b", "aa", "ab", "ba", "bb"}},
		{"a\xff", 1, []string{"", "a", "\xff"}},
		{"a", 3, []string{"", "a", "aa", "aaa"}},
		{"ab", 0, []string{""}}, {"ab", -1, []string{""}}, {"", 3, []string{""}},
	} {
		if got := texts.All(x.alphabet, x.n); !slices.Equal(got, x.want) {
			t.Errorf("All(%q, %d): %q", x.alphabet, x.n, got)
		}
	}
}
