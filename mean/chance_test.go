package mean_test

import (
	"math/rand/v2"
	"slices"
	"strings"
	"testing"

	"gristmill/api"
	"gristmill/infer"
	"gristmill/obs"
)

// What there is: a whole number, a float, a list of whole numbers, a pair of one and a list, a function from one to one, one from two.
const sorts = "idlpfg"

// known is a name and its sort; of a definition, whether it has parameters, and of which sorts these are.
type known struct {
	name   string
	sort   byte
	params string
}

// writer writes programs by chance.
type writer struct {
	*rand.Rand
	wrong int // of how many parts one is of any sort
}

func (w writer) pick(l ...string) string { return l[w.IntN(len(l))] }

func (w writer) sort() byte { return sorts[w.IntN(len(sorts))] }

// of is one of the names of the sort that takes nothing; none if there is none.
func (w writer) of(sort byte, in []known) string {
	for range 8 {
		if k := in[w.IntN(len(in))]; k.sort == sort && k.params == "" {
			return k.name
		}
	}
	return ""
}

// leaf is one that has no parts.
func (w writer) leaf(sort byte, in []known) string {
	if name := w.of(sort, in); name != "" && w.IntN(4) > 0 {
		return name
	}
	switch sort {
	case 'i':
		return w.pick("0", "1", "2", "3", "-1", "9223372036854775807")
	case 'd':
		return w.pick("0p0", "1p0", "-3p-1", "inf", "1p70")
	case 'l':
		return "N"
	case 'p':
		return "(P " + w.leaf('i', in) + " " + w.leaf('l', in) + ")"
	case 'f':
		return w.pick("(fn (z) z)", "(fn (x) (- x 1))", "(g2 1)")
	}
	return w.pick("g2", "(fn (x y) (- x y))")
}

// expr writes one of the sort in which the names are known, so deep.
func (w writer) expr(sort byte, deep int, in []known) string {
	if w.wrong > 0 && w.IntN(w.wrong) == 0 {
		sort = w.sort()
	}
	if deep <= 0 {
		return w.leaf(sort, in)
	}
	part := func(sort byte, more ...known) string { return w.expr(sort, deep-1, slices.Concat(in, more)) }
	name := known{name: w.pick("x", "y", "z", "h"), sort: w.sort()}
	other := known{name: w.pick("a", "b", "main"), sort: w.sort()}
	switch w.IntN(14) {
	case 0:
		return "(case " + part('i') + " (" + w.pick("0", "1", "2") + " " + part(sort) + ") " + w.pick("(1 "+part(sort)+") ", "", "") + "(_ " + part(sort) + "))"
	case 1:
		x, r := known{name: "x", sort: 'i'}, known{name: w.pick("r", "y"), sort: 'l'}
		return "(case " + part('l') + " ((C x " + r.name + ") " + part(sort, x, r) + ")" + w.pick(" (N "+part(sort)+"))", " (_ "+part(sort)+"))", ")")
	case 2:
		a, l := known{name: w.pick("a", "x"), sort: 'i'}, known{name: "l", sort: 'l'}
		return "(case " + part('p') + " ((P " + a.name + " l) " + part(sort, a, l) + "))"
	case 3:
		return "(let ((" + name.name + " " + part(name.sort, name) + ")) " + part(sort, name) + ")"
	case 4:
		return "(let ((" + name.name + " " + part(name.sort, name, other) + ") (" + other.name + " " + part(other.sort, name, other) + ")) " + part(sort, name, other) + ")"
	case 5:
		return "((fn (" + name.name + ") " + part(sort, name) + ") " + part(name.sort) + ")"
	case 6:
		return "((fn (" + name.name + " " + other.name + ") " + part(sort, name, other) + ") " + part(name.sort) + " " + part(other.sort) + ")"
	case 7:
		return "(seq " + part(w.sort()) + " " + part(sort) + ")"
	case 8, 9:
		if s := w.call(sort, deep, in); s != "" {
			return s
		}
	case 10:
		if w.IntN(8) == 0 {
			return "(fail " + w.pick("0", "7", "12") + ")"
		}
	}
	return w.own(sort, deep, in, part)
}

// call is one of a definition with parameters; none, if there was none.
func (w writer) call(sort byte, deep int, in []known) string {
	for range 8 {
		k := in[w.IntN(len(in))]
		if k.sort != sort || k.params == "" {
			continue
		}
		s := "(" + k.name
		for i := range len(k.params) {
			s += " " + w.expr(k.params[i], deep-1, in)
		}
		return s + ")"
	}
	return ""
}

// own is one that only the sort has.
func (w writer) own(sort byte, deep int, in []known, part func(byte, ...known) string) string {
	x, y := known{name: w.pick("x", "y"), sort: 'i'}, known{name: w.pick("z", "v"), sort: 'i'}
	switch sort {
	case 'i':
		return w.pick(
			"("+w.pick("+", "-", "*", "<", "=")+" "+part('i')+" "+part('i')+")", "("+w.pick("div", "mod")+" "+part('i')+" "+w.pick("2", part('i'))+")",
			"("+w.pick("f<", "f=")+" "+part('d')+" "+part('d')+")", "(whole "+part('d')+")", "("+part('f')+" "+part('i')+")", "("+part('g')+" "+part('i')+" "+part('i')+")")
	case 'd':
		return w.pick("("+w.pick("f+", "f-", "f*", "f/")+" "+part('d')+" "+part('d')+")", "(float "+part('i')+")")
	case 'l':
		return w.pick("(C "+part('i')+" "+part('l')+")", "(C "+part('i')+" "+part('l')+")", "((C "+part('i')+") "+part('l')+")", "((case 1 (_ C)) "+part('i')+" "+part('l')+")")
	case 'p':
		return w.pick("(P "+part('i')+" "+part('l')+")", "((P "+part('i')+") "+part('l')+")")
	case 'f':
		return w.pick("(fn ("+x.name+") "+part('i', x)+")", "("+part('g')+" "+part('i')+")")
	}
	return w.pick("(fn ("+x.name+" "+y.name+") "+part('i', x, y)+")", "(fn ("+x.name+") "+part('f', x)+")")
}

// program writes one of some definitions and main.
func (w writer) program() string {
	in := []known{{name: "g2", sort: 'g'}, {name: "ones", sort: 'l'}, {name: "from", sort: 'l', params: "i"}, {name: "map", sort: 'l', params: "fl"}, {name: "take", sort: 'l', params: "il"}, {name: "sum", sort: 'i', params: "l"}}
	names := []string{"f0", "f1", "f2", "f3"}[:w.IntN(5)]
	for _, name := range names {
		k := known{name: name, sort: w.sort()}
		for range w.IntN(3) {
			k.params += string(w.sort())
		}
		in = append(in, k)
	}
	s := lists + "(def g2 x y (+ x (* 2 y))) (def ones (C 1 ones)) (def from n (C n (from (+ n 1)))) (def map f l (case l (N N) ((C x r) (C (f x) (map f r))))) (def take n l (case n (0 N) (_ (case l (N N) ((C x r) (C x (take (- n 1) r))))))) (def sum l (case l (N 0) ((C x r) (+ x (sum r)))))"
	for _, k := range in[6:] {
		var params []string
		inner := slices.Clone(in)
		for i := range len(k.params) {
			params = append(params, "p"+text(i))
			for range 3 {
				inner = append(inner, known{name: "p" + text(i), sort: k.params[i]})
			}
		}
		s += " (def " + k.name + " " + strings.Join(params, " ") + " " + w.expr(k.sort, 1+w.IntN(3), inner) + ")"
	}
	return s + " (def main " + w.expr(sorts[w.IntN(4)], 1+w.IntN(5), in) + ")"
}

func TestProgramsByChance(t *testing.T) {
	for _, wrong := range []int{0, 30} {
		var n tally
		w := writer{rand.New(rand.NewPCG(12, uint64(wrong))), wrong}
		right := 0
		for range 1200 {
			p := read(t, w.program())
			if _, err := infer.Types(p); err == nil {
				right++
			}
			if got := n.hold(t, p, nil, w.IntN(12), 2000); got.is {
				holdFuelAndDepth(t, &n, p, w)
			}
		}
		if n.seen < 900 || n.deep < 250 || n.fault < 200 || n.nothing < 1500 || right < 500 {
			t.Error(n, right)
		}
	}
}

// holdFuelAndDepth holds: with more fuel it is the same, with less depth it is Cut of it.
func holdFuelAndDepth(t *testing.T, n *tally, p api.Program, w writer) {
	t.Helper()
	depth := w.IntN(8)
	first := n.hold(t, p, nil, depth, 5000)
	if !first.is {
		return
	}
	for _, fuel := range []int64{first.steps, first.steps + 1, first.steps + w.Int64N(1000), api.MaxFuel} {
		wantSame(t, run(p, depth, fuel), first)
	}
	for range 2 {
		fuel := w.Int64N(first.steps)
		wantSame(t, n.hold(t, p, nil, depth, fuel), nothing(fuel))
	}
	if first.obs.Kind == api.SeenFault {
		return
	}
	for less := range depth {
		got := run(p, less, first.steps)
		if !got.is || got.steps > first.steps || !obs.Same(got.obs, obs.Cut(first.obs, less)) {
			t.Fatal(obs.Text(got.obs), got.steps, got.is)
		}
	}
}

func TestExpressionsByChance(t *testing.T) {
	var n tally
	w := writer{rand.New(rand.NewPCG(12, 7)), 40}
	for range 300 {
		p := read(t, w.program())
		in := []known{{name: "g2", sort: 'g'}, {name: "ones", sort: 'l'}, {name: "from", sort: 'l', params: "i"}, {name: "sum", sort: 'i', params: "l"}, {name: "map", sort: 'l', params: "fl"}}
		for range 20 {
			e := readExpr(t, w.expr(w.sort(), 1+w.IntN(4), in))
			n.hold(t, p, &e, w.IntN(10), 500+w.Int64N(3000))
		}
	}
	if n.seen < 2000 || n.deep < 500 || n.fault < 300 || n.nothing < 500 {
		t.Error(n)
	}
}
