package steps_test

import (
	"math/rand/v2"
	"testing"

	"gristmill/api"
	"gristmill/grin"
	"gristmill/steps"
	"gristmill/tag"
)

// seen counts what stands in programs.
type seen struct{ ops, kinds, takes [16]int }

func (n *seen) add(l []api.Step) {
	for _, s := range l {
		n.ops[s.Op]++
		n.kinds[s.Tag.Kind]++
		for _, b := range s.Alts {
			n.takes[b.Take]++
			n.add(b.Steps)
		}
	}
}

// What is written may be, and has all that there is.
func TestPrograms(t *testing.T) {
	for _, wrong := range []int{0, 10} {
		w := steps.Writer{Chance: rand.New(rand.NewPCG(0, 1)), Wrong: wrong}
		var n seen
		funcs := 0
		for range 2000 {
			p := grin.Prog{Funcs: w.Program()}
			if err := grin.Valid(p); err != nil {
				t.Fatal(err, p)
			}
			funcs += len(p.Funcs)
			for _, f := range p.Funcs {
				n.add(f.Steps)
			}
		}
		for op := api.DoNode; op <= api.DoField; op++ {
			if n.ops[op] < 50 {
				t.Errorf("%d of Op %d", n.ops[op], op)
			}
		}
		for kind := api.TagCon; kind <= api.TagFlo; kind++ {
			if n.kinds[kind] < 50 {
				t.Errorf("%d nodes of Kind %d", n.kinds[kind], kind)
			}
		}
		for take := api.TakeCon; take <= api.TakeAny; take++ {
			if n.takes[take] < 50 {
				t.Errorf("%d branches that Take %d", n.takes[take], take)
			}
		}
		if funcs < 1000 || n.ops[0] > 0 {
			t.Error(funcs, n.ops[0])
		}
	}
}

// By the same numbers the same is written.
func TestTheSameNumbers(t *testing.T) {
	w, again := steps.Writer{Chance: rand.New(rand.NewPCG(1, 2))}, steps.Writer{Chance: rand.New(rand.NewPCG(1, 2))}
	for range 100 {
		if a, b := w.Program(), again.Program(); !grin.Same(grin.Prog{Funcs: a}, grin.Prog{Funcs: b}) {
			t.Error(a, b)
		}
	}
}

func TestTrees(t *testing.T) {
	for i, x := range steps.Trees() {
		if !tag.Valid(x) || x.Kind != api.TagCon || x.N != i {
			t.Error(x)
		}
	}
}
