package gen_test

import (
	"fmt"
	"strconv"
	"strings"
	"testing"

	"gristmill/api"
	"gristmill/grin"
	"gristmill/lift"
	"gristmill/mean"
	"gristmill/obs"
	"gristmill/run"
	"gristmill/scope"
	"gristmill/syn"
	"gristmill/tree"
)

// row is the text so often, with a space ahead, and its place in place of each ?, the next one's in place of each !.
func row(n int, s string) string {
	out := ""
	for i := range n {
		out += " " + strings.NewReplacer("?", strconv.Itoa(i), "!", strconv.Itoa((i+1)%n)).Replace(s)
	}
	return out
}

// sum is a difference of differences of a0, a1 .., in which each is at a place of its own.
func sum(n int) string { return part(0, n) }

func part(from, to int) string {
	if to-from == 1 {
		return "a" + strconv.Itoa(from)
	}
	return "(- " + part(from, (from+to)/2) + " " + part((from+to)/2, to) + ")"
}

// sumOf is what that is of 10, 11, 12 ..
func sumOf(n int) string { return strconv.Itoa(valueOf(0, n, func(i int) int { return 10 + i })) }

// sumOfSame is what it is of the same number everywhere.
func sumOfSame(n, number int) string {
	return strconv.Itoa(valueOf(0, n, func(int) int { return number }))
}

func valueOf(from, to int, of func(i int) int) int {
	if to-from == 1 {
		return of(from)
	}
	return valueOf(from, (from+to)/2, of) - valueOf((from+to)/2, to, of)
}

// numbersFrom is so many numbers from the first on, with a space ahead of each.
func numbersFrom(first, n int) (s string) {
	for i := range n {
		s += " " + strconv.Itoa(first+i)
	}
	return s
}

func TestManyParameters(t *testing.T) {
	for _, n := range []int{58, 59, 60} {
		all, but, last := numbersFrom(10, n), numbersFrom(10, n-1), strconv.Itoa(9+n)
		same := strings.Repeat(" y", n)
		// In the second nothing needs a global.
		for _, x := range []struct{ top, one string }{{"(def one 1)", "one"}, {"(def one x (+ x 0))", "(one 1)"}} {
			tops := x.top + "(def f" + row(n, "a?") + " (+ (- " + x.one + " 1) " + sum(n) + ")) (def id x x) (def k x y x) (def ap f x (f x))"
			for _, x := range []struct{ main, want string }{
				{"(f" + all + ")", sumOf(n)},
				{"(id (f" + all + "))", sumOf(n)},
				{"(k (f" + all + ") 1)", sumOf(n)},
				{"(let ((y 3) (z (f" + same + "))) (- z (- 7 z)))", plus(sumOfSame(n, 3), -7, sumOfSame(n, 3))},
				{"(let ((y 3)) (case (id (f" + same + ")) (" + sumOfSame(n, 3) + " 1)))", "1"},
				{"(let ((g (f" + but + "))) (+ (g " + last + ") (- (g 0) (g 0))))", sumOf(n)},
				{"(ap (f" + but + ") " + last + ")", sumOf(n)},
				{"((id f)" + all + ")", sumOf(n)},
				{"((let ((g f)) (k g 1))" + all + ")", sumOf(n)},
				{"(((f 10)" + numbersFrom(11, n-2) + ") " + last + ")", sumOf(n)},
			} {
				wantSeen(t, tops+"(def main "+x.main+")", x.want)
			}
		}
	}
	// More than it takes: as many as may be.
	wantSeen(t, "(def f a0 (fn ("+row(60, "a?")[3:]+") "+sum(60)+")) (def main (f"+numbersFrom(10, 60)+"))", sumOf(60))
	wantSeen(t, "(def k x y x) (def f a (k (fn ("+row(58, "a?")+") "+sum(58)+"))) (def main (f 1 2"+numbersFrom(10, 58)+"))", sumOf(58))
}

func TestManyParts(t *testing.T) {
	for _, n := range []int{1, 2, 59, 60} {
		data := "(data T (T" + strings.Repeat(" Int", n) + ")) (def id x x) (def take t (case t ((T" + row(n, "a?") + ") " + sum(n) + ")))"
		all := numbersFrom(10, n)
		wantSeen(t, data+"(def main (T"+all+"))", "(T"+all+")")
		wantSeen(t, data+"(def main (take (T"+all+")))", sumOf(n))
		wantSeen(t, data+"(def main ((id T)"+all+"))", "(T"+all+")")
		wantSeen(t, data+"(def main (let ((y 3)) (id (T"+strings.Repeat(" y", n)+"))))", "(T"+strings.Repeat(" 3", n)+")")
		if n > 1 {
			wantSeen(t, data+"(def main ((T 10) "+strings.Join(strings.Fields(all)[1:], " ")+"))", "(T"+all+")")
			wantSeen(t, data+"(def main (let ((f (T 10)) (g (id f))) (g "+strings.Join(strings.Fields(all)[1:], " ")+")))", "(T"+all+")")
		}
		// Those names that are not needed, and those that are.
		for _, i := range []int{0, n / 2, n - 1} {
			wantSeen(t, data+"(def main (case (T"+all+") ((T"+row(n, "a?")+") (id a"+strconv.Itoa(i)+"))))", strconv.Itoa(10+i))
		}
	}
}

func TestManyAlternatives(t *testing.T) {
	for _, n := range []int{1, 2, 58, 59, 60} {
		numbers := ""
		for i := range n {
			numbers += " (" + strconv.Itoa(i) + " " + strconv.Itoa(100+i) + ")"
		}
		first, last := numbers, "!-1"
		if n == 60 {
			// As many, the last of which takes anything.
			first, last = numbers[:strings.LastIndex(numbers, " (")]+" (_ 7)", "7"
		}
		cons, alts := "", ""
		for i := range n {
			cons += " (C" + strconv.Itoa(i) + " Int)"
			alts += " ((C" + strconv.Itoa(i) + " x) (+ x " + strconv.Itoa(100+i) + "))"
		}
		data := "(data T" + cons + ") (def id x x)"
		for _, i := range []int{0, 1, n - 2, n - 1} {
			if i < 0 || i >= n {
				continue
			}
			at, want := strconv.Itoa(i), strconv.Itoa(100+i)
			wantSeen(t, "(def f n (case n"+numbers+")) (def main (f "+at+"))", want)
			wantSeen(t, "(def f n (+ (case n"+numbers+") 0)) (def main (f "+at+"))", want)
			wantSeen(t, data+"(def main (case (id (C"+at+" 0))"+alts+"))", want)
			// All but that one.
			without := strings.Replace(alts, " ((C"+at+" x) (+ x "+want+"))", "", 1)
			if n > 1 {
				wantSeen(t, data+"(def main (case (C"+at+" 1)"+without+"))", "!-1")
				wantSeen(t, data+"(def main (case (C"+at+" 1)"+without+" (_ 5)))", "5")
			}
		}
		wantSeen(t, "(def main (case "+strconv.Itoa(n)+numbers+"))", "!-1")
		wantSeen(t, "(def main (case -1"+first+"))", last)
	}
}

// lets is Lets within one another, of sixty names each, so many in all: each name is a number, the first is 10.
func lets(names int, in string) string {
	return letsOf(names, in, func(i int) int { return 10 + i })
}

func letsOf(names int, in string, number func(i int) int) string {
	open, end := "", ""
	for i := 0; i < names; i += 60 {
		of := ""
		for k := i; k < min(i+60, names); k++ {
			of += "(a" + strconv.Itoa(k) + " " + strconv.Itoa(number(k)) + ")"
		}
		open, end = open+"(let ("+of+") ", end+")"
	}
	return open + in + end
}

// As many names as a function takes, and more, are needed by what waits, by what is evaluated within others, and by what is within these.
func TestManyNames(t *testing.T) {
	const tops = lists + "(def one 1) (def id x x) (def k x y x) (def two x (+ x one))"
	for _, n := range []int{2, 58, 59, 60, 61, 62, 118, 119, 120, 121, 180, 400} {
		for _, x := range []struct{ in, want string }{
			{"(id ?)", sumOf(n)},
			{"(k (id ?) ?)", sumOf(n)},
			{"(+ (case ? (12345 1) (_ ?)) 0)", sumOf(n)},
			{"(P (id (id (id ?))) (k (+ ? one) ?))", "(P " + sumOf(n) + " " + plus(sumOf(n), 1) + ")"},
			{"(+ (- (two (id ?)) one) (case one (2 ?) (1 0)))", sumOf(n)},
			{"(let ((z (+ ? w)) (w (- one y)) (y (k 1 z))) (id (+ z w)))", sumOf(n)},
			{"(let ((z (C ? z))) z)", "(C ? (C ? (C ? (C ? (C ? _)))))"},
			{"(case (P (id ?) one) ((P x y) (id (- ? (- x (* y ?))))))", sumOf(n)},
			{"(case (id ?) (-12345 1) (_ (case (id ?) (-12345 2) (_ (id (let ((q (id ?))) (id (+ q (- one 1)))))))))", sumOf(n)},
			{"((fn (x) (id (+ x ?))) (- 1 one))", sumOf(n)},
		} {
			if strings.Contains(x.in, "(fn ") && n > 58 {
				continue
			}
			wantSeen(t, tops+"(def main "+lets(n, strings.ReplaceAll(x.in, "?", sum(n)))+")", strings.ReplaceAll(x.want, "?", sumOf(n)))
		}
	}
}

// plus is a number with a text, and n and those of others more.
func plus(s string, n int, more ...string) string {
	m, _ := strconv.Atoi(s)
	for _, x := range more {
		m, _ = strconv.Atoi(plus(x, m))
	}
	return strconv.Itoa(m + n)
}

// tree60 is a tree of trees of sixty, which has all the names.
func tree60(names int) string {
	s := ""
	for i := 0; i < names; i += 60 {
		s += " (T"
		for k := i; k < i+60; k++ {
			s += " a" + strconv.Itoa(k%names)
		}
		s += ")"
	}
	return s
}

// Far more of them, within many things within one another: to come to them takes few steps.
func TestVeryManyNames(t *testing.T) {
	for _, rows := range []int{2, 10, 56} {
		n := 60 * rows
		data := "(data T (T" + strings.Repeat(" Int", 60) + ") (R" + strings.Repeat(" T", rows) + ")) (def one 1) (def id x x)" +
			"(def at i t (case t ((T" + row(60, "a?") + ") (case i (0 a0) (17 a17) (59 a59)))))" +
			"(def row i t (case t ((R" + row(rows, "a?") + ") (case i (0 a0) (1 a1) (_ a" + strconv.Itoa(rows-1) + ")))))"
		all := "(R" + tree60(n) + ")"
		for _, x := range []struct {
			row, at, want int
		}{{0, 0, 10}, {1, 17, 87}, {2, 59, n + 9}} {
			in := "(at " + strconv.Itoa(x.at) + " (row " + strconv.Itoa(x.row) + " " + strings.Repeat("(id ", 100) + all + strings.Repeat(")", 100) + "))"
			wantSeen(t, data+"(def main "+lets(n, in)+")", strconv.Itoa(x.want))
			in = "(at " + strconv.Itoa(x.at) + " (row " + strconv.Itoa(x.row) + " " + strings.Repeat("(let ((? (id one))) (case ? (2 loop) (_ (id ", 20)
			in = strings.ReplaceAll(in, "?", "y")
			wantSeen(t, data+"(def loop loop) (def main "+lets(n, in+all+strings.Repeat("))))", 20)+"))")+")", strconv.Itoa(x.want))
		}
	}
}

func TestManyGlobals(t *testing.T) {
	for _, n := range []int{1, 2, 59, 60, 61, 62, 119, 120, 121, 180, 199} {
		last := strconv.Itoa(n - 1)
		g := row(n-1, "(def a? (+ a(?+1) 1))")
		for i := n - 1; i > 0; i-- {
			g = strings.Replace(g, "a("+strconv.Itoa(i-1)+"+1)", "a"+strconv.Itoa(i), 1)
		}
		g += " (def a" + last + " 5)"
		wantSeen(t, g+"(def main a0)", strconv.Itoa(n+4))
		wantSeen(t, g+"(def main (+ (+ a0 a"+last+") a"+strconv.Itoa(n/2)+"))", strconv.Itoa(n+4+5+n-1-n/2+5))
		if n < 199 {
			wantSeen(t, g+"(def id x x) (def main (id (+ (id a0) (id a"+last+"))))", strconv.Itoa(n+4+5))
			wantSeen(t, lists+g+"(def f x (C x main)) (def main (f a"+last+"))", "(C 5 (C 5 (C 5 (C 5 (C 5 _)))))")
		}
		// Each needs all, as much as there is room for.
		ring := row(n, "(def a? (C a! a"+last+"))")
		p := read(t, "(data L (C L L))"+ring+"(def main (C a0 a"+last+"))")
		new(tally).hold(t, p, 4)
	}
	// Only what main needs is a global.
	few := len(generated(t, read(t, "(def a 1) (def main a)")).Funcs)
	if many := len(generated(t, read(t, "(def a 1) (def main a)"+row(100, "(def b? (+ b! main))"))).Funcs); many != few {
		t.Error(few, many)
	}
}

// Each form as deep within itself as may be.
func TestDeep(t *testing.T) {
	for _, x := range []struct {
		open, end, want string
		levels          int // of brackets
	}{
		{"(+ 1 ", ")", "?", 1}, {"(+ ", " 1)", "?", 1}, {"(seq 1 ", ")", "0", 1}, {"(seq ", " 0)", "0", 1}, {"(whole (float ", "))", "0", 2}, {"(id ", ")", "0", 1}, {"((id id) ", ")", "0", 1}, {"(let ((x 1)) ", ")", "0", 1}, {"(let ((x ", ")) x)", "0", 3}, {"(case ", " (_ 0))", "0", 1}, {"(case 1 (_ ", "))", "0", 2}, {"(case 1 (2 1) (_ ", "))", "0", 2}, {"(case 1 (1 ", "))", "0", 2}, {"(case ", " (1 1) (_ 0))", "0", 1}, {"(+ (case 1 (1 ", ")) 1)", "?", 3}, {"(k ", " (fail 1))", "0", 1}, {"(k 0 ", ")", "0", 1}, {"((k ", ") 2)", "0", 2},
	} {
		n := (api.MaxDeep - 4) / x.levels
		s := "(def id x x) (def k x y x) (def main " + strings.Repeat(x.open, n) + "0" + strings.Repeat(x.end, n) + ")"
		wantSeen(t, s, strings.ReplaceAll(x.want, "?", strconv.Itoa(n)))
	}
}

// What takes the most steps for one of what it means: Lets of sixty names that need one another, calls of sixty arguments.
func TestAsManyStepsAsThereMayBe(t *testing.T) {
	ring := "(let (" + row(60, "(a? (k a!))") + ") "
	for _, n := range []int{1, 10, 60} {
		s := "(def k x 1) (def main " + strings.Repeat(ring, n) + "a7" + strings.Repeat(")", n) + ")"
		wantSeen(t, s, "1")
		wantSeen(t, "(def k x 1) (def g n (case n (0 1) (_ "+strings.Repeat(ring, n)+"(g (- n 1))"+strings.Repeat(")", n)+"))) (def main (g 5))", "1")
	}
	args := row(60, "(k a?)")
	wantSeen(t, "(def k x 1) (def f n"+row(58, "a?")+" (case n (0 1) (_ (f (- n 1)"+row(58, "(k a?)")+")))) (def main (f 20"+row(58, "1")+"))", "1")
	wantSeen(t, "(data T (T"+strings.Repeat(" Int", 60)+")) (def k x 1) (def h"+row(60, "a?")+" (T"+args+")) (def main (h"+row(60, "1")+"))", "(T"+strings.Repeat(" 1", 60)+")")
	// What nobody needs is not made, however much it is.
	s := "1"
	for range 60 {
		s = "(P " + s + " (P 1 (P (+ 1 1) (P f (P (C 1) one)))))"
	}
	p := lifted(t, read(t, lists+"(def one 1) (def f x x) (def k x y x) (def main (k 1 "+s+"))"))
	g := generated(t, p)
	if out := run.Run(g, 3, 100); out.How != api.Ended || out.Steps > 20 {
		t.Error(out)
	}
}

// Names that are bound within what waits within what waits, and so on, all of which the last one needs: to come to the first takes no more steps than to the last.
func TestFewStepsToEachName(t *testing.T) {
	const levels = 30
	open, end, all := "", "", ""
	for i := range levels {
		names, of := "", ""
		for k := range 60 {
			name := "a" + strconv.FormatInt(int64(60*i+k), 36)
			names, of = names+" "+name, of+"("+name+" 1)"
		}
		open, end, all = open+"(id (let ("+of+") ", "))"+end, all+" (h"+names+")"
	}
	h := strings.Split(all, " (")
	for _, i := range []int{1, levels / 2, levels} {
		s := "(def id x x) (def h" + row(60, "x?") + " 1) (def r" + row(levels, "x?") + " 1) (def main " + open +
			strings.Repeat("(seq ("+h[i]+" ", 100) + "(case 1 (1 2) (_ (r" + all + ")))" + strings.Repeat(")", 100) + end + ")"
		wantSeen(t, s, "2")
		p := read(t, s)
		_, steps, _ := mean.Run(p, 3, 5000)
		if out := run.Run(generated(t, p), 3, 100000); out.How != api.Ended || out.Steps > 40*steps {
			t.Error(out, steps)
		}
	}
}

// size is how much grin.Valid counts of the steps.
func size(l []api.Step) int {
	n := len(l)
	for _, s := range l {
		n += len(s.Vals) + len(s.Alts)
		for _, b := range s.Alts {
			n += size(b.Steps)
		}
	}
	return n
}

func sizeOf(g grin.Prog) (n int) {
	for _, f := range g.Funcs {
		n += size(f.Steps)
	}
	return n
}

// chains is a program in which things within one another need sixty names, n in rows, and one more of so many.
func chains(t *testing.T, n, more int) api.Program {
	chain := func(deep int) string {
		return " " + strings.Repeat("(k ", deep) + "(g" + row(59, "a?") + ")" + strings.Repeat(" 1)", deep)
	}
	s := ""
	for i := 0; i < n; i += 50 {
		s += " (g" + strings.Repeat(chain(130), min(50, n-i)) + ")"
	}
	return read(t, "(def g x x) (def k x y x) (def f"+row(59, "a?")+" (g"+s+chain(more)+")) (def main f)")
}

func TestErrMany(t *testing.T) {
	sizeOfChains := func(n, more int) int { return sizeOf(generated(t, chains(t, n, more))) }
	least := sizeOfChains(2, 1)
	ofChain, ofOne := sizeOfChains(3, 1)-least, sizeOfChains(2, 2)-least
	want := func(n, more int) int { return least + (n-2)*ofChain + (more-1)*ofOne }
	if sizeOfChains(7, 40) != want(7, 40) {
		t.Fatal(ofChain, ofOne)
	}
	// As many as there may be, as near as it is come to, and one more.
	n := (api.MaxCode-least)/ofChain + 2
	more := (api.MaxCode-want(n, 1))/ofOne + 1
	if want(n, more) > api.MaxCode || want(n, more) < api.MaxCode-ofOne || ofOne > 100 || more > 129 {
		t.Fatal(n, more, ofOne)
	}
	if got := sizeOfChains(n, more); got != want(n, more) {
		t.Error(got)
	}
	for _, x := range [][2]int{{n, more + 1}, {n + 1, 1}, {n + 2, 130}} {
		p := chains(t, x[0], x[1])
		if err := scope.Check(p); err != nil {
			t.Fatal(err)
		}
		wantError(t, p, api.ErrMany)
	}
}

// expressions calls see with each expression in e.
func expressions(e api.Expr, see func(api.Expr)) {
	see(e)
	for _, part := range e.L {
		expressions(part, see)
	}
	for _, a := range e.Alts {
		expressions(a.E, see)
	}
}

// wantWithin holds that the program is one of which Lift never says that it is too much, and that its steps are never too many. It answers how many these are.
func wantWithin(t *testing.T, p api.Program) int {
	t.Helper()
	size, names := 0, 0
	for _, d := range p.Defs {
		names += len(d.Params)
		expressions(d.Body, func(e api.Expr) {
			size++
			names += len(e.Names)
			for _, a := range e.Alts {
				names += len(a.Names)
			}
		})
	}
	nodes, err := tree.Parse(syn.Text(api.Program{Defs: p.Defs}))
	if err != nil || size > 500 || len(p.Defs) > 20 || names > 40 || tree.Deep(nodes...) > 30 {
		t.Fatal(size, len(p.Defs), names, err)
	}
	q, err := lift.Lift(p)
	if err != nil {
		t.Fatal(err)
	}
	return sizeOf(generated(t, q))
}

// Rows of as much within one another as may be, each with as many names as may be, all of which are needed in all of it.
func TestNeverTooMany(t *testing.T) {
	most := 0
	for _, fns := range []int{0, 1, 2, 3, 5, 9} {
		for _, deep := range []int{0, 5, 15, 24} {
			wraps := max(0, deep-fns)
			names := 40 - 1
			each := func(names int) int { return 2 + names + fns + 2*wraps }
			rows := 495 / each(names)
			for fns*rows > 20 {
				rows--
			}
			outer := names - fns*rows
			s := ""
			for i := range rows {
				e := "(g" + row(outer, "a?") + row(fns, "b?_"+strconv.Itoa(i)) + ")"
				for k := range fns {
					e = "(fn (b" + strconv.Itoa(k) + "_" + strconv.Itoa(i) + ") " + e + ")"
				}
				s += " " + strings.Repeat("(g ", wraps) + e + strings.Repeat(")", wraps)
			}
			most = max(most, wantWithin(t, read(t, "(def g x x) (def f"+row(outer, "a?")+" (g"+s+")) (def main f)")))
		}
	}
	if most < 4000 {
		t.Error(most)
	}
}

// As much as a program may be.
func TestLarge(t *testing.T) {
	for _, s := range []string{
		lists + row(198, "(def f? x (case x (0 (f! 1)) (_ (f? (+ x (f! (- x 1)))))))") + "(def main (f0 1))",
		lists + row(99, "(def f? (C x? (+ f! main)))") + row(99, "(def x? 1)") + "(def main f7)",
	} {
		if got := len(generated(t, read(t, s)).Funcs); got < 199 {
			t.Error(got)
		}
	}
	for _, x := range []string{"(+ 1 2)", "(id x)", "(P 1 x)", "(case x (1 2))"} {
		s := lists + "(def id x x)"
		for i := range 60 {
			s += fmt.Sprintf("(def f%d x (id"+strings.Repeat(" "+x, 58)+"))", i)
		}
		if got := len(generated(t, read(t, s+"(def main (id"+row(59, "f?")+"))")).Funcs); got < 60 {
			t.Error(got)
		}
	}
	// Where most of it is not needed.
	p := read(t, "(def id x x) (def main "+lets(2900, "(id a2899)")+")")
	want, steps, is := mean.Run(p, 3, 5000)
	out := run.Run(generated(t, p), 3, 200*steps+400)
	if !is || !obs.Same(want, out.Obs) {
		t.Error(out)
	}
}
