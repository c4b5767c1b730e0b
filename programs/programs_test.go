package programs_test

import (
	"math/rand/v2"
	"testing"

	"gristmill/infer"
	"gristmill/programs"
	"gristmill/scope"
	"gristmill/syn"
)

// What is written has all its names, and most of it has types.
func TestPrograms(t *testing.T) {
	for _, x := range []struct{ wrong, least, most int }{{0, 400, 500}, {20, 100, 400}} {
		right := 0
		w := programs.Writer{Chance: rand.New(rand.NewPCG(0, 1)), Wrong: x.wrong}
		for range 500 {
			s := w.Program()
			p, err := syn.Parse(s)
			if err != nil || scope.Check(p) != nil {
				t.Fatal(s, err, scope.Check(p))
			}
			if _, err := infer.Types(p); err == nil {
				right++
			}
		}
		if right < x.least || right > x.most {
			t.Error(x, right)
		}
	}
}

// By the same numbers the same is written.
func TestTheSameNumbers(t *testing.T) {
	w, again := programs.Writer{Chance: rand.New(rand.NewPCG(1, 2))}, programs.Writer{Chance: rand.New(rand.NewPCG(1, 2))}
	for range 100 {
		if s, want := w.Program(), again.Program(); s != want {
			t.Error(s, want)
		}
	}
}
