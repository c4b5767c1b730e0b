package tag_test

import (
	"fmt"
	"math/rand/v2"
	"slices"
	"strings"
	"testing"

	"gristmill/api"
	"gristmill/tag"
)

func TestLess(t *testing.T) {
	long := strings.Repeat("x", 1<<20)
	ordered := []api.Tag{
		{Kind: -1, Name: "z", N: 9}, {Name: "z", N: 9},
		con("", 9), con("A", -1), con("A", 0), con("A", 9), con("A\x00", 0), con("AA", 0), con("Aa", 0), con("B", 0), con("B", 1), con("B", 2), con("B", 10), con("a", 0), con("\u00c4", 0), con("\xff", 0),
		fun("A", 0), fun("f", 3), fun("f_1", 0), fun("f_10", 0), fun("f_2", 0), fun("g", 0), fun(long, 5), fun(long+"x", 0), fun(long+"y", 0),
		pap("A", 1), pap("f", 1), pap("f", 2), app(1), app(2), app(60), {Kind: api.TagInt}, {Kind: api.TagFlo}, {Kind: 7},
	}
	for i, a := range ordered {
		for k, b := range ordered {
			if got := tag.Less(a, b); got != (i < k) {
				t.Errorf("Less(%s, %s): %v", show(a), show(b), got)
			}
		}
	}
}

func TestLessOfEachKindNameAndCount(t *testing.T) {
	l := all()
	for i, a := range l {
		for k, b := range l {
			if got := tag.Less(a, b); got != (i < k) {
				t.Fatalf("Less(%s, %s): %v", show(a), show(b), got)
			}
		}
	}
}

func wantSet(t *testing.T, in []api.Tag, want ...api.Tag) {
	t.Helper()
	if got := tag.Set(in...); !slices.Equal(got, want) {
		t.Errorf("Set(%s): %s; want %s", show(in...), show(got...), show(want...))
	}
}

func TestSet(t *testing.T) {
	wantSet(t, nil)
	wantSet(t, []api.Tag{})
	wantSet(t, []api.Tag{con("C", 1)}, con("C", 1))
	wantSet(t, []api.Tag{{}}, api.Tag{})
	wantSet(t, []api.Tag{{}, {}, {}}, api.Tag{})
	wantSet(t, []api.Tag{fun("f", 1), con("C", 1)}, con("C", 1), fun("f", 1))
	wantSet(t, []api.Tag{con("C", 1), fun("f", 1)}, con("C", 1), fun("f", 1))
	wantSet(t, []api.Tag{app(2), app(1), app(2), app(1)}, app(1), app(2))
	wantSet(t, []api.Tag{{Kind: api.TagFlo}, {Kind: api.TagInt}, app(1), pap("f", 2), pap("f", 1), fun("g", 0), fun("f", 7), con("D", 0), con("C", 3), con("D", 0), app(1)},
		con("C", 3), con("D", 0), fun("f", 7), fun("g", 0), pap("f", 1), pap("f", 2), app(1), api.Tag{Kind: api.TagInt}, api.Tag{Kind: api.TagFlo})
	// Those that may not be are tags too.
	wantSet(t, []api.Tag{{Kind: 9, Name: "x"}, con("c", 61), {Kind: -2, N: 5}, con("c", -1), {Kind: 9, Name: "x"}}, api.Tag{Kind: -2, N: 5}, con("c", -1), con("c", 61), api.Tag{Kind: 9, Name: "x"})
}

func TestSetIsVariadic(t *testing.T) {
	if got := tag.Set(); len(got) != 0 {
		t.Error(got)
	}
	if got := tag.Set(app(3), app(1), app(3)); !slices.Equal(got, []api.Tag{app(1), app(3)}) {
		t.Error(got)
	}
}

// setOf is Set told another way: each tag goes in behind those that are less, if it is not there.
func setOf(l []api.Tag) []api.Tag {
	var set []api.Tag
	for _, x := range l {
		at := 0
		for at < len(set) && (set[at].Kind < x.Kind || set[at].Kind == x.Kind && (set[at].Name < x.Name || set[at].Name == x.Name && set[at].N < x.N)) {
			at++
		}
		if at == len(set) || set[at] != x {
			set = slices.Insert(set, at, x)
		}
	}
	return set
}

func TestSetByChance(t *testing.T) {
	chance := rand.New(rand.NewPCG(14, 1))
	from := all()
	repeated := 0
	for round := range 3000 {
		few := from
		if round%2 == 0 { // so few that most stand there more than once
			at := chance.IntN(len(from) - 8)
			few = from[at : at+8]
		}
		l := make([]api.Tag, chance.IntN(40))
		for i := range l {
			l[i] = few[chance.IntN(len(few))]
		}
		want := setOf(l)
		if len(want) < len(l) {
			repeated++
		}
		wantSet(t, l, want...)
		wantSet(t, want, want...)
		for _, x := range few[:8] {
			if in := slices.Index(l, x) >= 0; tag.Has(l, x) != in || tag.Has(want, x) != in {
				t.Errorf("Has(%s, %s) is not %v", show(l...), show(x), in)
			}
		}
	}
	if repeated < 1000 {
		t.Errorf("only %d with a tag twice", repeated)
	}
}

func TestSetOfMany(t *testing.T) {
	from := all()
	var l []api.Tag
	for range 50 {
		l = append(l, from...)
	}
	slices.Reverse(l)
	wantSet(t, l, from...)
	for i := range l {
		l[i] = app(1)
	}
	wantSet(t, l, app(1))
}

func TestHas(t *testing.T) {
	l := []api.Tag{fun("f", 1), con("C", 2), app(2), con("C", 2), {}}
	for _, x := range []struct {
		l    []api.Tag
		tag  api.Tag
		want bool
	}{
		{l, fun("f", 1), true}, {l, con("C", 2), true}, {l, app(2), true}, {l, api.Tag{}, true}, // in no order
		{l, con("C", 1), false}, {l, con("c", 2), false}, {l, con("", 2), false}, {l, fun("C", 2), false}, {l, pap("f", 1), false}, {l, api.Tag{N: 2}, false},
		{nil, api.Tag{}, false}, {nil, app(1), false}, {[]api.Tag{}, api.Tag{}, false},
		{l[:1], con("C", 2), false}, {l[:4], api.Tag{}, false}, {l[1:], fun("f", 1), false}, {l[1:2], con("C", 2), true},
	} {
		if got := tag.Has(x.l, x.tag); got != x.want {
			t.Errorf("Has(%s, %s): %v", show(x.l...), show(x.tag), got)
		}
	}
}

func TestWhatIsHandedInIsNeitherChangedNorReadBehindItsLength(t *testing.T) {
	l := []api.Tag{fun("f", 1), con("C", 2), app(2), con("C", 2), {Kind: api.TagInt}, con("A", 0)}
	kept := slices.Clone(l)
	for range 3 {
		wantSet(t, l[:4], con("C", 2), fun("f", 1), app(2))
		wantSet(t, l[:0])
		wantSet(t, l[2:3], app(2))
		if !tag.Has(l[:4], app(2)) || tag.Has(l[:4], con("A", 0)) {
			t.Error("Has")
		}
		if !slices.Equal(l, kept) {
			t.Fatalf("%s; it was %s", show(l...), show(kept...))
		}
	}
}

// spoil writes into all of a list, the spare room too.
func spoil(l []api.Tag, with api.Tag) {
	l = l[:cap(l)]
	for i := range l {
		l[i] = with
	}
}

func TestWhatIsHandedOutIsNewMemory(t *testing.T) {
	sorted := []api.Tag{con("A", 0), con("B", 0), fun("f", 0), app(1)}
	for _, in := range [][]api.Tag{{}, sorted[:0], sorted[:1], sorted[:3], sorted, {app(1), app(1), app(1)}, {app(2), con("C", 0), app(2)}} {
		kept, behind := slices.Clone(in), slices.Clone(in[:cap(in)])
		want := setOf(in)
		a, b := tag.Set(in...), tag.Set(in...)
		c := tag.Set(b...)
		spoil(a, con("Of_a", 1))
		if !slices.Equal(b, want) || !slices.Equal(c, want) || !slices.Equal(in, kept) || !slices.Equal(in[:cap(in)], behind) {
			t.Errorf("of %s: another one is spoilt: %s, %s", show(kept...), show(b...), show(c...))
		}
		spoil(b, con("Of_b", 1))
		if !slices.Equal(c, want) || !slices.Equal(in[:cap(in)], behind) {
			t.Errorf("of %s: what was handed in is spoilt, or another one: %s", show(kept...), show(c...))
		}
		spoil(in, con("In", 1))
		if !slices.Equal(c, want) {
			t.Errorf("of %s: it hangs on what was handed in: %s", show(kept...), show(c...))
		}
		copy(in, kept)
		copy(in[:cap(in)], behind)
	}
}

func TestCallsAtOnceDisturbNoOther(t *testing.T) {
	l := []api.Tag{app(2), fun("f", 1), con("C", 2), app(2)}
	want := fmt.Sprint(tag.Set(l...))
	done := make(chan string)
	for range 8 {
		go func() {
			got := want
			for range 1000 {
				if s := fmt.Sprint(tag.Set(l...)); s != want || !tag.Has(l, app(2)) || !tag.Less(l[2], l[1]) {
					got = s
				}
			}
			done <- got
		}()
	}
	for range 8 {
		if got := <-done; got != want {
			t.Error(got)
		}
	}
}
