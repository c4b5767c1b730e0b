package run_test

import (
	"math/rand/v2"
	"testing"

	"gristmill/api"
	"gristmill/grin"
	"gristmill/obs"
	"gristmill/steps"
)

func TestProgramsByChance(t *testing.T) {
	for _, wrong := range []int{0, 10, 40} {
		r := rand.New(rand.NewPCG(17, uint64(wrong)))
		w := steps.Writer{Chance: r, Wrong: wrong}
		how := map[int]int{}
		trees, faults, cut := 0, 0, 0
		for range 4000 {
			p := grin.Prog{Funcs: w.Program()}
			got := does(t, p, r.IntN(6), 3000)
			how[got.How]++
			switch got.Obs.Kind {
			case api.SeenTree:
				trees++
			case api.SeenFault:
				faults++
			}
			if got.How == api.Ended && !obs.Valid(got.Obs) {
				t.Error(obs.Text(got.Obs))
			}
			if got.How != api.OutOfFuel && got.Steps > 0 {
				cut++
				fuel := r.Int64N(got.Steps)
				wantOut(t, p, api.OutOfFuel, fuel, fuel)
			}
		}
		if how[api.Ended] < 1000 || how[api.OutOfFuel] < 20 || how[api.Bad] < 20 || len(how) != 3 || trees < 100 || faults < 100 || cut < 1000 {
			t.Error(wrong, how, trees, faults, cut)
		}
	}
}
