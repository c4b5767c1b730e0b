package tag_test

import (
	"fmt"
	"math"
	"slices"
	"strconv"
	"strings"
	"testing"

	"gristmill/api"
	"gristmill/tag"
)

func con(name string, n int) api.Tag { return api.Tag{Kind: api.TagCon, Name: name, N: n} }
func fun(name string, n int) api.Tag { return api.Tag{Kind: api.TagFun, Name: name, N: n} }
func pap(name string, n int) api.Tag { return api.Tag{Kind: api.TagPap, Name: name, N: n} }
func app(n int) api.Tag              { return api.Tag{Kind: api.TagApp, N: n} }

var (
	kinds  = []int{math.MinInt, -1, 0, api.TagCon, api.TagFun, api.TagPap, api.TagApp, api.TagInt, api.TagFlo, 7, 8, 256 + api.TagCon, 1<<32 + api.TagCon, math.MaxInt}
	names  = []string{"", "\x00", " ", "$", "@", "A", "AB", "Az", "B", "C$", "Z", "Z\x00", "[", "_", "`", "a", "aB", "f", "f_1", "z", "{", "\u00c4", "\xff", "\xffA"}
	counts = []int{math.MinInt, -1 << 32, -60, -1, 0, 1, 2, 59, 60, 61, 256, 1 << 32, 1<<32 + 1, math.MaxInt}
)

// all is each Kind with each name and each count, in their order.
func all() []api.Tag {
	var l []api.Tag
	for _, kind := range kinds {
		for _, name := range names {
			for _, n := range counts {
				l = append(l, api.Tag{Kind: kind, Name: name, N: n})
			}
		}
	}
	return l
}

// show is tags for a message, cut if they are long.
func show(l ...api.Tag) string {
	s := ""
	for _, x := range l[:min(len(l), 12)] {
		s += fmt.Sprintf("{%d %.40q %d}", x.Kind, x.Name, x.N)
	}
	return fmt.Sprintf("[%s] (%d)", s, len(l))
}

func TestValid(t *testing.T) {
	long := strings.Repeat("x", 1<<20)
	for _, x := range []struct {
		tag  api.Tag
		want bool
	}{
		{con("C", 0), true}, {con("Cons", 2), true}, {con("C", api.MaxList), true}, {con("C", api.MaxList+1), false}, {con("C", -1), false},
		{con("C$", 1), true}, {con("A", 1), true}, {con("Z", 1), true}, {con("Z "+long, 1), true}, {con("C\x00\xff", 1), true},
		{con("", 0), false}, {con("c", 0), false}, {con("aC", 0), false}, {con("_C", 0), false}, {con("1", 0), false}, {con(" C", 0), false}, {con("\u00c4", 0), false},
		{fun("f", 0), true}, {fun("f", 1), true}, {fun("f", api.MaxList), true}, {fun("f", api.MaxList+1), false}, {fun("f", -1), false},
		{fun("F", 1), true}, {fun("$", 1), true}, {fun("\x00", 1), true}, {fun(long, 1), true}, {fun("", 0), false}, {fun("", 1), false},
		{pap("f", 1), true}, {pap("f", api.MaxList), true}, {pap("f", 0), false}, {pap("f", api.MaxList+1), false}, {pap("f", -1), false},
		{pap("F", 2), true}, {pap("$", 2), true}, {pap("\x00", 2), true}, {pap(long, 2), true}, {pap("", 1), false},
		{app(1), true}, {app(2), true}, {app(api.MaxList), true}, {app(0), false}, {app(api.MaxList + 1), false}, {app(-1), false},
		{api.Tag{Kind: api.TagApp, Name: "f", N: 1}, false}, {api.Tag{Kind: api.TagApp, Name: "C", N: 1}, false}, {api.Tag{Kind: api.TagApp, Name: " ", N: 1}, false},
		{api.Tag{Kind: api.TagInt}, true}, {api.Tag{Kind: api.TagInt, N: 1}, false}, {api.Tag{Kind: api.TagInt, N: -1}, false}, {api.Tag{Kind: api.TagInt, Name: "C"}, false},
		{api.Tag{Kind: api.TagFlo}, true}, {api.Tag{Kind: api.TagFlo, N: 1}, false}, {api.Tag{Kind: api.TagFlo, N: -1}, false}, {api.Tag{Kind: api.TagFlo, Name: "f"}, false},
		{api.Tag{}, false}, {api.Tag{Name: "C"}, false}, {api.Tag{Kind: 7}, false}, {api.Tag{Kind: 7, Name: "C", N: 1}, false}, {api.Tag{Kind: -1, Name: "C", N: 1}, false},
	} {
		if got := tag.Valid(x.tag); got != x.want {
			t.Errorf("Valid(%s): %v", show(x.tag), got)
		}
	}
}

// mayBe is Valid told another way: which of a tag's parts may go with its Kind.
func mayBe(t api.Tag) bool {
	upper := strings.IndexAny(t.Name, "ABCDEFGHIJKLMNOPQRSTUVWXYZ") == 0
	counted := t.N >= 0 && t.N <= 60
	return slices.Contains([]bool{
		t.Kind == 1 && upper && counted,
		t.Kind == 2 && len(t.Name) > 0 && counted,
		t.Kind == 3 && len(t.Name) > 0 && counted && t.N != 0,
		t.Kind == 4 && len(t.Name) == 0 && counted && t.N != 0,
		t == api.Tag{Kind: 5},
		t == api.Tag{Kind: 6},
	}, true)
}

func TestValidOfEachKindNameAndCount(t *testing.T) {
	valid := 0
	for _, x := range all() {
		if tag.Valid(x) {
			valid++
		}
		if tag.Valid(x) != mayBe(x) {
			t.Errorf("Valid(%s): %v", show(x), tag.Valid(x))
		}
	}
	// Seven names begin with A to Z, 23 are not empty; six counts are 0 to 60, five of them 1 to 60.
	const uppers, given = 7, 23
	if want := uppers*6 - uppers + given*5 + given*4 + 4 + 2; valid != want {
		t.Errorf("%d are valid, not %d", valid, want)
	}
}

func TestValidOfEachFirstByte(t *testing.T) {
	for i := range 256 {
		for _, rest := range []string{"", "A", "a", "$", "\x00"} {
			name := string([]byte{byte(i)}) + rest
			if got := tag.Valid(con(name, 1)); got != (i >= 'A' && i <= 'Z') {
				t.Errorf("Valid of a constructor %q: %v", name, got)
			}
			if !tag.Valid(fun(name, 1)) || !tag.Valid(pap(name, 1)) {
				t.Errorf("Valid of a function %q: false", name)
			}
		}
	}
}

func TestValidOfEachCount(t *testing.T) {
	for n := -300; n <= 300; n++ {
		in := n >= 0 && n <= api.MaxList
		for _, x := range []struct {
			tag  api.Tag
			want bool
		}{
			{con("C", n), in}, {fun("f", n), in}, {pap("f", n), in && n > 0}, {app(n), in && n > 0},
			{api.Tag{Kind: api.TagInt, N: n}, n == 0}, {api.Tag{Kind: api.TagFlo, N: n}, n == 0}, {api.Tag{N: n}, false}, {api.Tag{Kind: 7, N: n}, false},
		} {
			if got := tag.Valid(x.tag); got != x.want {
				t.Errorf("Valid(%s): %v", show(x.tag), got)
			}
		}
	}
}

func TestWaitsAndBareTellTheKindAlone(t *testing.T) {
	for _, x := range all() {
		if got := tag.Waits(x); got != (x.Kind == 2 || x.Kind == 4) {
			t.Errorf("Waits(%s): %v", show(x), got)
		}
		if got := tag.Bare(x); got != (x.Kind == 5 || x.Kind == 6) {
			t.Errorf("Bare(%s): %v", show(x), got)
		}
	}
}

func TestText(t *testing.T) {
	long := strings.Repeat("y", 1<<20)
	for _, x := range []struct {
		tag  api.Tag
		want string
	}{
		{con("C", 0), "CC/0"}, {con("Cons", 2), "CCons/2"}, {con("C$", 60), "CC$/60"}, {con("A/1", 7), "CA/1/7"},
		{fun("f", 0), "Ff/0"}, {fun("f_1", 10), "Ff_1/10"}, {fun("F", 60), "FF/60"}, {fun("\xff\x00 ", 9), "F\xff\x00 /9"}, {fun(long, 1), "F" + long + "/1"},
		{pap("f", 1), "Pf/1"}, {pap("main", 60), "Pmain/60"}, {pap("P", 2), "PP/2"},
		{app(1), "A/1"}, {app(2), "A/2"}, {app(60), "A/60"},
		{api.Tag{Kind: api.TagInt}, "I/0"}, {api.Tag{Kind: api.TagFlo}, "D/0"},
		// Of those that may not be what there is, but for those without a Kind.
		{con("", 0), "C/0"}, {con("c", 61), "Cc/61"}, {pap("f", -1), "Pf/-1"}, {app(math.MaxInt), "A/9223372036854775807"}, {app(math.MinInt), "A/-9223372036854775808"},
		{api.Tag{Kind: api.TagApp, Name: "x", N: 2}, "Ax/2"}, {api.Tag{Kind: api.TagInt, Name: "x", N: 3}, "Ix/3"}, {api.Tag{Kind: api.TagFlo, N: -1}, "D/-1"},
		{api.Tag{}, ""}, {api.Tag{Name: "C", N: 1}, ""}, {api.Tag{Kind: 7, Name: "C", N: 1}, ""}, {api.Tag{Kind: -1}, ""},
	} {
		if got := tag.Text(x.tag); got != x.want {
			t.Errorf("Text(%s): %.80q; want %.80q", show(x.tag), got, x.want)
		}
	}
}

func TestTextTellsTagsApart(t *testing.T) {
	seen := map[string]api.Tag{}
	for _, x := range all() {
		text := tag.Text(x)
		if x.Kind < api.TagCon || x.Kind > api.TagFlo {
			if text != "" {
				t.Errorf("Text(%s): %q", show(x), text)
			}
			continue
		}
		if y, ok := seen[text]; ok {
			t.Errorf("Text of %s and of %s: %q", show(x), show(y), text)
		}
		seen[text] = x
		if want := string("?CFPAID"[x.Kind]) + x.Name + "/" + strconv.Itoa(x.N); text != want {
			t.Errorf("Text(%s): %q; want %q", show(x), text, want)
		}
	}
}
