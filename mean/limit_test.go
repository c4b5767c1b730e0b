package mean_test

import (
	"math"
	"reflect"
	"strings"
	"testing"

	"gristmill/api"
	"gristmill/obs"
)

func TestDepth(t *testing.T) {
	p := read(t, lists+"(def main (C 1 main))")
	for depth, want := range map[int]int{math.MinInt: 0, -5: 0, -1: 0, 0: 0, 1: 1, 2: 2, 12: 12, 39: 39, 40: 40, 41: 40, 1000: 40, math.MaxInt: 40} {
		want := strings.Repeat("(C 1 ", want) + "_" + strings.Repeat(")", want)
		steps := int64(2)
		if depth > 0 {
			steps = 4
		}
		got := run(p, depth, 1000)
		if obs.Text(got.obs) != want || got.steps != steps || !got.is {
			t.Errorf("%d: %q, %d, %v", depth, obs.Text(got.obs), got.steps, got.is)
		}
		if again := runExpr(p, readExpr(t, "(C 1 main)"), depth, 1000); obs.Text(again.obs) != want {
			t.Errorf("%d: %q", depth, obs.Text(again.obs))
		}
	}
	// Each part has one less than what it is in, not than the part ahead of it.
	s := lists + "(def main (P (C 1 (C 2 N)) (P N (P 3 (P (fn (x) x) 1p1)))))"
	wantMeaning(t, meaning{s, 0, "_", 2}, meaning{s, 1, "(P _ _)", 6}, meaning{s, 2, "(P (C 1 _) (P _ _))", 12}, meaning{s, 3, "(P (C 1 (C 2 _)) (P N (P 3 _)))", 17})
	wantMeaning(t, meaning{s, 4, "(P (C 1 (C 2 N)) (P N (P 3 (P <fn> 1p1))))", 19}, meaning{s, 40, "(P (C 1 (C 2 N)) (P N (P 3 (P <fn> 1p1))))", 19})
	wantMeaning(t, meaning{lists + "(def main N)", 0, "_", 1}, meaning{"(def main 3)", 0, "3", 1}, meaning{"(def main (fn (x) x))", 0, "<fn>", 1}, meaning{"(def main (fail 2))", 0, "!2", 1})
}

func TestFuel(t *testing.T) {
	wrong := read(t, "(def main main)")
	right := read(t, "(def main 3)")
	e := api.Expr{Op: api.Var, Name: "main"}
	for fuel, cut := range map[int64]int64{math.MinInt64: 0, -5: 0, -1: 0, 0: 0, 1: 1, 2: 2, 100: 100, api.MaxFuel - 1: api.MaxFuel - 1, api.MaxFuel: api.MaxFuel, api.MaxFuel + 1: api.MaxFuel, 1 << 32: api.MaxFuel, math.MaxInt64: api.MaxFuel} {
		wantSame(t, run(wrong, 5, fuel), nothing(cut))
		wantSame(t, runExpr(wrong, e, 5, fuel), nothing(cut))
		want := nothing(0)
		if cut > 0 {
			want = answer{api.Obs{Kind: api.SeenInt, N: 3}, 1, true}
		}
		wantSame(t, run(right, 5, fuel), want)
		want = nothing(cut)
		if cut > 1 {
			want = answer{api.Obs{Kind: api.SeenInt, N: 3}, 2, true}
		}
		wantSame(t, runExpr(right, e, 5, fuel), want)
	}
}

func wantSame(t *testing.T, got, want answer) {
	t.Helper()
	if !reflect.DeepEqual(got, want) {
		t.Errorf("%.300q, %d, %v; want %.300q, %d, %v", obs.Text(got.obs), got.steps, got.is, obs.Text(want.obs), want.steps, want.is)
	}
}

// long is a program that takes more steps, always as many more, for each of m, n and lets.
func long(t *testing.T, m, n, lets int) api.Program {
	return read(t, "(def f n (case n (0 0) (_ (f (- n 1))))) (def g m (case m (0 3) (_ (seq (f 1000) (g (- m 1)))))) (def main "+strings.Repeat("(let ((x 1)) ", lets)+"(seq (f "+text(n)+") (g "+text(m)+"))"+strings.Repeat(")", lets)+")")
}

func TestMaxFuel(t *testing.T) {
	steps := func(m, n, lets int) int {
		got := run(long(t, m, n, lets), 5, math.MaxInt64)
		if obs.Text(got.obs) != "3" || !got.is {
			t.Fatal(m, n, lets, got)
		}
		return int(got.steps)
	}
	least := steps(1, 1, 0)
	ofM, ofN, ofLet := steps(2, 1, 0)-least, steps(1, 2, 0)-least, steps(1, 1, 1)-least
	if ofLet != 1 || ofN < 5 || ofN > 9 {
		t.Fatal(ofM, ofN, ofLet)
	}
	left := api.MaxFuel - least
	m, left := left/ofM, left%ofM
	n, left := left/ofN, left%ofN
	if got := steps(m+1, n+1, left); got != api.MaxFuel {
		t.Error(got)
	}
	wantSame(t, run(long(t, m+1, n+1, left+1), 5, math.MaxInt64), nothing(api.MaxFuel))
	wantSame(t, run(long(t, m+1, n+1, left), 5, api.MaxFuel-1), nothing(api.MaxFuel-1))
}

// What is open at once are evaluations within one another, also that of what an expression is in the end.
func TestMaxStack(t *testing.T) {
	for _, x := range []struct {
		s, want   string
		each, all int // how many are open at most in (f n): so many for each of n, and so many around ? and at the end
	}{
		{"(def f n (case n (0 7) (_ (f (- n 1))))) (def main ?)", "7", 2, 5},
		{"(def f n (case n (0 7) (_ (seq (f (- n 1)) 7)))) (def main ?)", "7", 3, 5},
		{"(def f n (case n (0 7) (_ (seq 1 (f (- n 1)))))) (def main ?)", "7", 3, 5},
		{"(def f n (case n (0 7) (_ (+ 0 (f (- n 1)))))) (def main ?)", "7", 3, 5},
		{"(def f n (case n (0 7) (_ (- (f (- n 1)) 0)))) (def main ?)", "7", 3, 5},
		{"(def f n (case n (0 7p0) (_ (f+ 0p0 (f (- n 1)))))) (def main (whole ?))", "7", 3, 6},
		{"(def f n (case n (0 7) (_ (whole (float (f (- n 1))))))) (def main ?)", "7", 4, 5},
		{"(def f n (case n (0 7) (_ (let ((m (- n 1))) (f m))))) (def main ?)", "7", 3, 5},
		{"(def f n (case (case n (0 7) (_ (f (- n 1)))) (7 7))) (def main ?)", "7", 3, 6},
		{"(def f n (case n (0 (fn (x) x)) (_ ((f (- n 1)) (fn (x) x))))) (def main (? 7))", "7", 3, 6},
		{"(def f n (case n (0 (fn (x) x)) (_ (f (- n 1))))) (def main (? 7))", "7", 2, 6},
		{"(def f n (case n (0 (fail 7)) (_ ((fn (m) (f m)) (- n 1))))) (def main ?)", "!7", 3, 5},
		// Cells that wait for one another: a name, and what it is.
		{"(def f n (g n 7)) (def g n a (case n (0 a) (_ (g (- n 1) (+ a 0))))) (def main ?)", "7", 4, 5},
		{"(def f n (let ((x (case n (0 7) (_ (f (- n 1)))))) x)) (def main ?)", "7", 4, 7},
	} {
		n, wraps := (api.MaxStack-x.all)/x.each, (api.MaxStack-x.all)%x.each
		for more := range 2 {
			s := strings.Replace(x.s, "?", deep(n, wraps+more), 1)
			got := run(read(t, s), 40, api.MaxFuel)
			if more == 1 {
				wantSame(t, got, nothing(api.MaxFuel))
			} else if !got.is || obs.Text(got.obs) != x.want {
				t.Errorf("%s: %q, %d, %v", s, obs.Text(got.obs), got.steps, got.is)
			}
		}
	}
}

// deep is f of n, so many expressions within others.
func deep(n, around int) string {
	return strings.Repeat("(seq 1 ", around) + "(f " + text(n) + ")" + strings.Repeat(")", around)
}

// What a tree has is evaluated behind the tree, not within it; and nothing is open any more behind what was evaluated.
func TestMaxStackOfEachPart(t *testing.T) {
	const s = lists + "(def f n (case n (0 7) (_ (f (- n 1))))) (def main "
	n, around := (api.MaxStack-5)/2, (api.MaxStack-5)%2
	most, over := deep(n, around), deep(n, around+1)
	want := "(P 7 (P (P 7 7) 7))"
	for _, x := range []struct{ s, want string }{
		{"(P ? (P (P ? ?) ?))", want}, {"(P ? (P (P ? ?) !))", ""}, {"(P 7 (P (P ! 7) 7))", ""}, {"(P 7 (P (P 7 7) !))", ""}, {"(P ! 7)", ""},
	} {
		s := s + strings.ReplaceAll(strings.ReplaceAll(x.s, "?", most), "!", over) + ")"
		got := run(read(t, s), 3, api.MaxFuel)
		if x.want == "" {
			wantSame(t, got, nothing(api.MaxFuel))
		} else if obs.Text(got.obs) != x.want || !got.is {
			t.Errorf("%s: %q, %d, %v", s, obs.Text(got.obs), got.steps, got.is)
		}
	}
	// What is not looked at is nothing.
	wantMeaning(t, meaning{s + "(P 7 (P (P " + over + " 7) 7)))", 2, "(P 7 (P _ 7))", 8})
}

// looked is a program in which 19977 values are looked at, and then the parts.
func looked(parts ...string) string {
	row := func(n int, s string) string { return strings.Repeat(" "+s, n) }
	// x: 1 + 60. y: 1 + 60 * 61. main: 1 + 5 * 3661 + 27 * 61 + 23, and T.
	return "(data R a N (R" + row(60, "a") + ") (S" + row(56, "a") + ") (T" + row(len(parts), "a") + "))" +
		"(def x (R" + row(60, "1") + ")) (def y (R" + row(60, "x") + ")) (def loop loop) (def main (S" + row(5, "y") + row(27, "x") + row(23, "1") + " (T " + strings.Join(parts, " ") + ")))"
}

// size is how many observations it is.
func size(o api.Obs) int {
	n := 1
	for _, part := range o.L {
		n += size(part)
	}
	return n
}

func TestMaxSize(t *testing.T) {
	ones := func(n int, more ...string) string {
		return looked(append(strings.Fields(strings.Repeat("1 ", n)), more...)...)
	}
	for _, s := range []string{ones(23), ones(22, "N"), ones(22, "(fn (x) x)"), ones(20, "1p0", "R", "(R 1)")} {
		got := run(read(t, s), 40, api.MaxFuel)
		if !got.is || size(got.obs) != api.MaxSize || !obs.Valid(got.obs) {
			t.Errorf("%d, %d, %v", size(got.obs), got.steps, got.is)
		}
	}
	for _, more := range [][]string{{"1"}, {"N"}, {"1p0"}, {"(fn (x) x)"}, {"1", "(fail 8)"}, {"loop"}, {"main"}, {"x"}, {"1", "1"}, {"loop", "(fail 8)"}} {
		wantSame(t, run(read(t, ones(23, more...)), 40, api.MaxFuel), nothing(api.MaxFuel))
	}
	// It is counted behind its forcing: there a fault comes ahead of it.
	fault := api.Obs{Kind: api.SeenFault, N: 8}
	for _, s := range []string{ones(23, "(fail 8)"), ones(22, "(fail 8)"), ones(22, "(fail 8)", "1", "1", "1"), ones(23, "(seq (fail 8) 1)", "1")} {
		if got := run(read(t, s), 40, api.MaxFuel); !reflect.DeepEqual(got.obs, fault) || !got.is {
			t.Error(got.obs.Kind, got.steps, got.is)
		}
	}
}

// What is left out is looked at, too.
func TestMaxSizeOfWhatIsCut(t *testing.T) {
	// In a tree of two at each place: 2^(depth + 1) - 1.
	p := read(t, "(data T (T T T)) (def main (T main main))")
	for depth := range api.MaxDepth + 1 {
		got := run(p, depth, api.MaxFuel)
		n := 1<<(depth+1) - 1
		if got.is != (n <= api.MaxSize) || got.is && (size(got.obs) != n || got.steps != 4 && depth > 0) {
			t.Errorf("%d: %d, %d, %v", depth, size(got.obs), got.steps, got.is)
		}
		if !got.is {
			wantSame(t, got, nothing(api.MaxFuel))
		}
	}
}
