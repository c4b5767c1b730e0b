package mean_test

import (
	"math/rand/v2"
	"testing"

	"gristmill/api"
	"gristmill/infer"
	"gristmill/obs"
	"gristmill/programs"
)

// writer writes programs by chance, and has it.
type writer struct {
	*rand.Rand
	programs.Writer
}

func newWriter(seed uint64, wrong int) writer {
	r := rand.New(rand.NewPCG(12, seed))
	return writer{r, programs.Writer{Chance: r, Wrong: wrong}}
}

func TestProgramsByChance(t *testing.T) {
	for _, wrong := range []int{0, 30} {
		var n tally
		w := newWriter(uint64(wrong), wrong)
		right := 0
		for range 1200 {
			p := read(t, w.Program())
			if _, err := infer.Types(p); err == nil {
				right++
			}
			if got := n.hold(t, p, nil, w.IntN(12), 2000); got.is {
				holdFuelAndDepth(t, &n, p, w)
			}
		}
		if n.seen < 900 || n.deep < 250 || n.fault < 200 || n.nothing < 1500 || right < 500 {
			t.Error(n, right)
		}
	}
}

// holdFuelAndDepth holds: with more fuel it is the same, with less depth it is Cut of it.
func holdFuelAndDepth(t *testing.T, n *tally, p api.Program, w writer) {
	t.Helper()
	depth := w.IntN(8)
	first := n.hold(t, p, nil, depth, 5000)
	if !first.is {
		return
	}
	for _, fuel := range []int64{first.steps, first.steps + 1, first.steps + w.Int64N(1000), api.MaxFuel} {
		wantSame(t, run(p, depth, fuel), first)
	}
	for range 2 {
		fuel := w.Int64N(first.steps)
		wantSame(t, n.hold(t, p, nil, depth, fuel), nothing(fuel))
	}
	if first.obs.Kind == api.SeenFault {
		return
	}
	for less := range depth {
		got := run(p, less, first.steps)
		if !got.is || got.steps > first.steps || !obs.Same(got.obs, obs.Cut(first.obs, less)) {
			t.Fatal(obs.Text(got.obs), got.steps, got.is)
		}
	}
}

func TestExpressionsByChance(t *testing.T) {
	var n tally
	w := newWriter(7, 40)
	for range 300 {
		p := read(t, w.Program())
		in := []programs.Known{{Name: "g2", Sort: 'g'}, {Name: "ones", Sort: 'l'}, {Name: "from", Sort: 'l', Params: "i"}, {Name: "sum", Sort: 'i', Params: "l"}, {Name: "map", Sort: 'l', Params: "fl"}}
		for range 20 {
			e := readExpr(t, w.Expr(w.Sort(), 1+w.IntN(4), in))
			n.hold(t, p, &e, w.IntN(10), 500+w.Int64N(3000))
		}
	}
	if n.seen < 2000 || n.deep < 500 || n.fault < 300 || n.nothing < 500 {
		t.Error(n)
	}
}
