package obs_test

import (
	"math"
	"math/rand/v2"
	"slices"
	"testing"

	"gristmill/api"
	"gristmill/flo"
	"gristmill/obs"
)

// maker makes observations by chance.
type maker struct{ *rand.Rand }

func (m maker) number() int64 {
	return []int64{0, 1, -1, 7, math.MaxInt64, math.MinInt64, 1 << 52, int64(m.Uint64())}[m.IntN(8)]
}

// obs makes one that may be in a tree, with at most so many trees within one another.
func (m maker) obs(trees int) api.Obs {
	if trees > 0 && m.IntN(3) > 0 {
		o := con([]string{"T", "U", "N_1", "Cons"}[m.IntN(4)])
		for range m.IntN(5) {
			o.L = append(o.L, m.obs(trees-1-m.IntN(2)))
		}
		return o
	}
	switch m.IntN(5) {
	case 0:
		return float(flo.Canon([]uint64{m.Uint64(), flo.NaN, 1 << 63, uint64(m.number())}[m.IntN(4)]))
	case 1:
		return fn()
	case 2:
		return cut()
	}
	return num(m.number())
}

// spoil writes something by chance into it, or into something in it.
func (m maker) spoil(o *api.Obs) {
	for len(o.L) > 0 && m.IntN(4) > 0 {
		o = &o.L[m.IntN(len(o.L))]
	}
	switch m.IntN(5) {
	case 0:
		o.Kind = m.IntN(9) - 1
	case 1:
		o.N = []int64{0, m.number(), flo.NaN, flo.NaN + 1, -1}[m.IntN(5)]
	case 2:
		o.Name = []string{"", "T", "t", "N_2", "_", "T ", "T)"}[m.IntN(7)]
	case 3:
		o.L = nil
	case 4:
		o.L = append(o.L, m.obs(m.IntN(3)), fault(m.number()))[:len(o.L)+1+m.IntN(2)]
	}
}

// all is each observation in o, o too, by how many trees are around it.
func all(o api.Obs, around int, by map[int][]api.Obs) map[int][]api.Obs {
	by[around] = append(by[around], o)
	for _, part := range o.L {
		all(part, around+1, by)
	}
	return by
}

// modelValid holds each observation for itself against a list of what each kind has. It is of observations that are neither wide nor large.
func modelValid(o api.Obs) bool {
	for around, l := range all(o, 0, map[int][]api.Obs{}) {
		for _, o := range l {
			is := map[int]bool{
				api.SeenInt:   o.Name == "" && o.L == nil,
				api.SeenFlo:   o.Name == "" && o.L == nil && (o.N == flo.NaN || !math.IsNaN(math.Float64frombits(uint64(o.N)))),
				api.SeenTree:  o.N == 0 && names.MatchString(o.Name) && around < 40,
				api.SeenFn:    o.Name == "" && o.L == nil && o.N == 0,
				api.SeenCut:   o.Name == "" && o.L == nil && o.N == 0,
				api.SeenFault: o.Name == "" && o.L == nil && around == 0,
			}
			if !is[o.Kind] {
				return false
			}
		}
	}
	return true
}

func TestValidByChance(t *testing.T) {
	m := maker{rand.New(rand.NewPCG(11, 1))}
	right := 0
	for range 20000 {
		o := m.obs(m.IntN(6))
		if !modelValid(o) || !obs.Valid(o) {
			t.Fatal(o)
		}
		for range 1 + m.IntN(2) {
			m.spoil(&o)
		}
		if got := obs.Valid(o); got != modelValid(o) || (obs.Text(o) != "") != got {
			t.Fatalf("Valid of %v: %v", o, got)
		}
		if obs.Valid(o) {
			right++
		}
	}
	if right < 3000 || right > 17000 {
		t.Error(right)
	}
}

func TestTextAndSameByChance(t *testing.T) {
	m := maker{rand.New(rand.NewPCG(11, 2))}
	for range 20000 {
		a := m.obs(m.IntN(6))
		s := obs.Text(a)
		if want, ok := modelParse(s); !ok || !obs.Same(want, a) {
			t.Fatalf("Text of %v: %q", a, s)
		}
		b := read(t, s)
		if !obs.Same(a, b) || !obs.Same(b, a) {
			t.Fatalf("%v; %v", a, b)
		}
		m.spoil(&b)
		if same := obs.Same(a, b); same != obs.Same(b, a) || obs.Valid(b) && same != (obs.Text(b) == s) || !obs.Valid(b) && same {
			t.Fatalf("Same of %v, %v: %v", a, b, same)
		}
	}
}

func TestCutByChance(t *testing.T) {
	m := maker{rand.New(rand.NewPCG(11, 3))}
	for range 20000 {
		o := m.obs(m.IntN(7))
		depth, again := m.IntN(9)-1, m.IntN(9)-1
		got := obs.Cut(o, depth)
		if s := modelCut(obs.Text(o), depth); obs.Text(got) != s {
			t.Fatalf("%q at %d: %q; want %q", obs.Text(o), depth, obs.Text(got), s)
		}
		if !obs.Same(obs.Cut(got, again), obs.Cut(o, min(depth, again))) {
			t.Fatalf("%q at %d, %d: %q", obs.Text(o), depth, again, obs.Text(obs.Cut(got, again)))
		}
	}
}

// What is handed in is neither changed nor kept, nor is it read behind its length; what is handed out shares no memory.
func TestMemory(t *testing.T) {
	m := maker{rand.New(rand.NewPCG(11, 4))}
	lists := 0
	for range 500 {
		o := m.obs(5)
		s := obs.Text(o)
		given := withMore(o)
		if obs.Text(given) != s || !obs.Valid(given) || !obs.Same(given, o) || !obs.Same(o, given) {
			t.Fatalf("%q: read behind its length", s)
		}
		answers := []api.Obs{read(t, s), read(t, s), obs.Cut(given, 9), obs.Cut(given, 9), obs.Cut(given, 2), obs.Cut(obs.Cut(given, 9), 9)}
		for _, got := range answers[:4] {
			if !obs.Same(got, o) {
				t.Fatalf("%q: %v", s, got)
			}
		}
		if !obs.Same(given, withMore(o)) || !hasMore(given) {
			t.Fatalf("%q: changed", s)
		}
		lists += wantApart(t, append(answers, given))
	}
	if lists < 5000 {
		t.Error(lists)
	}
}

// withMore is the observation with a fault behind the end of each list.
func withMore(o api.Obs) api.Obs {
	l := make([]api.Obs, 0, len(o.L)+1)
	for _, part := range o.L {
		l = append(l, withMore(part))
	}
	o.L = append(l, fault(9))[:len(o.L)]
	return o
}

// hasMore is whether the faults of withMore are still there.
func hasMore(o api.Obs) bool {
	return obs.Same(o.L[:len(o.L)+1][len(o.L)], fault(9)) && !slices.ContainsFunc(o.L, func(part api.Obs) bool { return !hasMore(part) })
}

// wantApart writes into all lists of the observations, their spare room too, and holds that none shows what was written into another one. It is how many lists they are.
func wantApart(t *testing.T, l []api.Obs) int {
	t.Helper()
	var lists [][]api.Obs
	for _, o := range l {
		for _, in := range all(o, 0, map[int][]api.Obs{}) {
			for _, part := range in {
				lists = append(lists, part.L[:cap(part.L)])
			}
		}
	}
	for i, list := range lists {
		for j := range list {
			list[j].N = int64(i)
		}
	}
	for i, list := range lists {
		for _, o := range list {
			if o.N != int64(i) {
				t.Fatalf("two of %d lists share memory", len(lists))
			}
		}
	}
	return len(lists)
}
