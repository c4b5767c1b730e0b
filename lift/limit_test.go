package lift_test

import (
	"reflect"
	"strconv"
	"strings"
	"testing"

	"gristmill/api"
	"gristmill/exprs"
	"gristmill/lift"
	"gristmill/scope"
	"gristmill/syn"
	"gristmill/tree"
)

// wantMany holds that there is such a program, but that it would be too much.
func wantMany(t *testing.T, p api.Program) {
	t.Helper()
	if err := scope.Check(p); err != nil {
		t.Errorf("%.300s: %v", syn.Text(p), err)
	}
	if got, err := lift.Lift(p); err != api.ErrMany || !reflect.DeepEqual(got, api.Program{}) {
		t.Errorf("%.300s: %v; want %v", syn.Text(p), err, api.ErrMany)
	}
}

// wantEither holds the program against what it means, or that it is too much.
func wantEither(t *testing.T, p api.Program, is bool) {
	t.Helper()
	if !is {
		wantMany(t, p)
		return
	}
	var n tally
	n.hold(t, p, 2, 5000)
}

// row is a text so often, with numbers from 0 on in place of ?, and spaces between.
func row(n int, each string) string {
	var l []string
	for i := range n {
		l = append(l, strings.ReplaceAll(each, "?", strconv.Itoa(i)))
	}
	return strings.Join(l, " ")
}

// nested is what is within so many of what is ahead of % and behind it, with numbers from 0 on in place of ?.
func nested(n int, each, within string) string {
	for i := n - 1; i >= 0; i-- {
		ahead, behind, _ := strings.Cut(strings.ReplaceAll(each, "?", strconv.Itoa(i)), "%")
		within = ahead + within + behind
	}
	return within
}

func TestAsManyDefinitionsAsThereMayBe(t *testing.T) {
	for _, own := range []int{1, 2, 100, 150, 198, 199, 200} {
		for n := max(0, api.MaxDefs-own-2); n <= api.MaxDefs-own+2; n++ {
			body := "z"
			for i := 0; i < n; i += 60 {
				body = "(case z (1 " + body + ") (_ (z " + row(min(60, n-i), "(fn (x) (x ? z))") + ")))"
			}
			wantEither(t, read(t, row(own-1, "(def d? x (x d?))")+"(def main (let ((z 1)) "+body+"))"), own+n <= api.MaxDefs)
		}
	}
	// Within one another, as deep as may be.
	deep := nested(198, "(fn (x) %)", "x")
	wantEither(t, read(t, "(def g 1) (def main "+deep+")"), true)
	wantEither(t, read(t, "(def g 1) (def h 2) (def main "+deep+")"), false)
	wantEither(t, read(t, "(def g (fn (x) x)) (def main "+deep+")"), false)
	wantEither(t, read(t, "(def g x (x x)) (def main (g (fn (y) 1) "+nested(197, "(fn (x?) %)", "x0")+"))"), true)
}

func TestAsManyParametersAsThereMayBe(t *testing.T) {
	for _, x := range []struct{ outer, own int }{{0, 60}, {1, 59}, {1, 60}, {2, 59}, {30, 30}, {30, 31}, {31, 30}, {58, 1}, {58, 2}, {59, 1}, {59, 2}, {60, 1}, {60, 60}} {
		is := x.outer+x.own <= api.MaxList
		sum := nested(x.outer, "(+ a? %)", "y0")
		fn := "(fn (" + row(x.own, "y?") + ") " + sum + ")"
		all := "(" + fn + " " + row(x.own, "10?") + ")"
		wantEither(t, read(t, "(def g "+row(x.outer, "a?")+" "+fn+") (def main 1)"), is)
		wantEither(t, read(t, "(def g "+row(x.outer, "a?")+" "+all+") (def main (seq g 1))"), is)
		if x.outer == 0 {
			continue
		}
		wantEither(t, read(t, "(def main (let ("+row(x.outer, "(a? ?)")+") "+all+"))"), is)
		wantEither(t, read(t, "(data D (D"+strings.Repeat(" Int", x.outer)+")) (def main (case (D "+row(x.outer, "?")+") ((D "+row(x.outer, "a?")+") "+all+")))"), is)
		wantEither(t, read(t, "(def main ((fn ("+row(x.outer, "a?")+") "+all+") "+row(x.outer, "?")+"))"), is)
		// What is taken for a Fn within, too.
		wantEither(t, read(t, "(def main (let ("+row(x.outer, "(a? ?)")+") ((fn ("+row(x.own, "y?")+") ((fn (z) (- "+sum+" z)) 1)) "+row(x.own, "10?")+")))"), x.outer+max(x.own, 2) <= api.MaxList)
		// What is around and not needed, and definitions, count for nothing.
		wantEither(t, read(t, "(def main (let ("+row(60, "(b? ?)")+") (let ("+row(x.outer, "(a? b?)")+") "+all+")))"), is)
		wantEither(t, read(t, row(x.outer, "(def a? ?)")+"(def main (let ("+row(60, "(b? ?)")+") "+all+"))"), true)
	}
}

// long is a name of so many bytes that begins with the text, or with what there is room for.
func long(s string, bytes int) string { return (s + strings.Repeat("_", bytes))[:bytes] }

// line is a line of data that is so many bytes long, 9 to 2508.
func line(i, bytes int) string {
	s, left := "(data ", bytes-8
	for k := 0; left > 0; k++ {
		if k > 0 {
			s, left = s+" ", left-1
		}
		size := min(40, left)
		if left-size == 1 {
			size--
		}
		s, left = s+long("C"+strconv.Itoa(i)+"_"+strconv.Itoa(k), size), left-size
	}
	return s + ")\n"
}

// lines is lines of data that are so many bytes long, 9 at least.
func lines(bytes int) (s string) {
	for i := 0; bytes > 0; i++ {
		size := min(bytes, 2508)
		if left := bytes - size; left > 0 && left < 9 {
			size -= 9
		}
		s, bytes = s+line(i, size), bytes-size
	}
	return s
}

func TestAsLongATextAsThereMayBe(t *testing.T) {
	for _, s := range []string{"(def main (let ((y 1)) (fn (x) y)))", "(def main (fn (x) x))", "(def main ((fn (x) (fn (y) (+ x y))) 1 2))"} {
		bytes := len(syn.Text(wantLifted(t, read(t, s))))
		for more := -3; more <= 3; more++ {
			p := read(t, lines(api.MaxText-bytes+more)+s)
			if got := len(syn.Text(p)); got > api.MaxText {
				t.Fatal(got)
			}
			wantEither(t, p, more <= 0)
		}
	}
	// Without a Fn there is nothing that grows.
	s := "(def main 1)\n"
	wantEither(t, read(t, lines(api.MaxText-len(s))+s), true)
}

// types is data that have so many types.
func types(n int) (s string) {
	for i := 0; n > 0; i++ {
		s += "(data A" + strings.Repeat("_", i)
		for k := 0; k < api.MaxCons && n > 0; k++ {
			size := min(n, api.MaxList)
			s += " (C" + strconv.Itoa(i) + "_" + strconv.Itoa(k) + strings.Repeat(" A", size) + ")"
			n -= size
		}
		s += ")"
	}
	return s
}

func TestAsLargeAsThereMayBe(t *testing.T) {
	for _, x := range []struct {
		s           string
		size, taken int
	}{
		{"(def main 1)", 1, 1}, {"(def main (fn (x) x))", 2, 2}, {"(def main (let ((y 1)) (fn (x) y)))", 4, 6}, {"(def main ((fn (x) (fn (y) (+ x y))) 1 2))", 8, 10},
	} {
		if got, taken := syn.Size(read(t, x.s)), syn.Size(wantLifted(t, read(t, x.s))); got != x.size || taken != x.taken {
			t.Fatal(x, got, taken)
		}
		for n := api.MaxSize - x.taken - 2; n <= api.MaxSize-x.size; n++ {
			wantEither(t, read(t, types(n)+x.s), n+x.taken <= api.MaxSize)
		}
	}
}

// wantWithin holds that the program is one that the document says never to be too much, and that it is so. It answers how many bytes the text is.
func wantWithin(t *testing.T, p api.Program) int {
	t.Helper()
	size, names, deep := 0, 0, 0
	for _, d := range p.Defs {
		names += len(d.Params)
		expressions(d.Body, func(e api.Expr) {
			size++
			names += len(e.Names)
			for _, a := range e.Alts {
				names += len(a.Names)
			}
		})
	}
	nodes, err := tree.Parse(syn.Text(api.Program{Defs: p.Defs}))
	if err == nil {
		deep = tree.Deep(nodes...)
	}
	if size > 500 || len(p.Defs) > 20 || names > 40 || err != nil || deep > 30 {
		t.Fatal(size, len(p.Defs), names, deep, err)
	}
	return len(syn.Text(wantLifted(t, p)))
}

// wide is a tree of what is in it and of n expressions more, with texts as long as there may be.
func wide(n int, in string) string {
	con := func(i int) string { return long("C0_"+strconv.Itoa(1+i), 40) }
	s := "(" + con(0)
	for n -= 2; n > 2; {
		k := min(n-2, 59)
		s, n = s+" (case "+con(k), n-k-2
		for i := range k {
			s += " (" + con(i) + " " + con(i+1) + ")"
		}
		s += ")"
	}
	return s + " " + in + ")"
}

// Names of forty bytes, each needed within all the Fns that there may be within one another: that each takes all of them would alone be more than the text of a program.
func TestNeverTooMany(t *testing.T) {
	most := 0
	for fns := 1; fns <= 26; fns++ {
		for _, outer := range []int{0, 1, 20, 40 - fns} {
			outer = min(outer, 40-fns)
			name := func(s string, i int) string { return long(s+strconv.Itoa(i), 40) }
			params, all := "", ""
			for i := range outer {
				params += " " + name("p", i)
			}
			for i := range fns {
				all += " " + name("y", i)
			}
			all += params
			body := "(" + name("y", 0) + all + ")"
			for i := fns - 1; i >= 0; i-- {
				body = "(fn (" + name("y", i) + ") " + body + ")"
			}
			left := 500 - 19 - 2 - fns - (fns + outer)
			for _, s := range []string{
				"(def " + long("g", 40) + params + " " + wide(left, body) + ")",
				"(def " + long("g", 40) + params + " " + strings.Replace(body, "("+name("y", 0)+all+")", wide(left, "("+name("y", 0)+all+")"), 1) + ")",
			} {
				for i := range 18 {
					s += "(def " + long("d"+strconv.Itoa(i), 40) + " 1)"
				}
				most = max(most, wantWithin(t, read(t, line(0, 2508)+s+"(def main 1)")))
			}
		}
	}
	if most < 45000 {
		t.Error(most)
	}
}

// As many Fns as there may be beside one another, each of which needs all names.
func TestNeverTooManyBesideOneAnother(t *testing.T) {
	for outer := 1; outer <= 39; outer++ {
		var all []string
		for i := range outer {
			all = append(all, long("p"+strconv.Itoa(i), 40))
		}
		params := strings.Join(all, " ")
		s, left := "(def main "+long("g", 40)+") (def "+long("g", 40)+" (fn ("+params+") (P", 496
		for i := 0; i < 40-outer && left > outer+3; i++ {
			s, left = s+" (fn ("+long("y"+strconv.Itoa(i), 40)+") (P "+params+"))", left-outer-3
		}
		wantWithin(t, read(t, "(data P (P "+strings.Repeat(" Int", 60)+"))"+s+")))"))
	}
}

// Forty Fns of one name each, which take nothing, in twenty definitions.
func TestNeverTooManyDefinitions(t *testing.T) {
	s := "(def main (seq (fn (x) x) (fn (y) (y main))))"
	for i := range 19 {
		s += "(def " + long("g"+strconv.Itoa(i), 40) + " ((fn (x) x) (fn (x) (x (x main)))))"
	}
	wantWithin(t, read(t, s))
}

// forms is ways to make an expression of another one.
func forms() []func(api.Expr) api.Expr {
	alts := func(l ...api.Expr) (out []api.Alt) {
		for _, e := range l {
			out = append(out, api.Alt{Take: api.TakeAny, E: e})
		}
		return out
	}
	return []func(api.Expr) api.Expr{
		func(e api.Expr) api.Expr { return app(e, v("y")) },
		func(e api.Expr) api.Expr { return app(v("y"), e) },
		func(e api.Expr) api.Expr { return let([]string{"y"}, e, v("y")) },
		func(e api.Expr) api.Expr { return api.Expr{Op: api.Case, L: []api.Expr{e}, Alts: alts(v("y"))} },
		func(e api.Expr) api.Expr {
			return api.Expr{Op: api.Case, L: []api.Expr{v("y")}, Alts: alts(v("y"), e)}
		},
	}
}

func of(l ...api.Expr) (p api.Program) {
	for _, e := range l {
		p.Defs = append(p.Defs, api.Def{Name: "main", Body: e})
	}
	return p
}

// As deep and as large as the document's limits have it, far more than syn.Valid takes.
func TestFlatOfMuch(t *testing.T) {
	for i, form := range forms() {
		a, b := v("x"), fn(v("x"), "x")
		for range 1<<16 - 2 {
			a, b = form(a), form(b)
		}
		for _, p := range []api.Program{of(a), of(a, v("y")), of(v("y"), a)} {
			if !lift.Flat(p) {
				t.Error(i, "no Fn")
			}
		}
		for _, p := range []api.Program{of(b), of(b, a), of(a, b)} {
			if lift.Flat(p) {
				t.Error(i, "a Fn")
			}
		}
	}
	wide := app(make([]api.Expr, 1<<20)...)
	if !lift.Flat(of(wide, app(v("x"), wide))) {
		t.Error("no Fn")
	}
	wide.L[1<<20-1] = fn(v("x"), "x")
	if lift.Flat(of(v("x"), wide)) {
		t.Error("a Fn")
	}
}

// Expressions that have themselves as a part, or one part at very many places: each call ends.
func TestEndless(t *testing.T) {
	var l []api.Expr
	for _, form := range forms() {
		l = append(l, exprs.Endless(form))
	}
	many := v("x")
	for range 100 {
		many = app(many, many)
	}
	for i, e := range append(l, many) {
		if lift.Flat(of(e, fn(v("x"), "x"))) || lift.Flat(of(fn(e, "x"))) || lift.Flat(of(fn(v("x"), "x"), e)) {
			t.Error(i)
		}
		lift.Flat(of(e))
		for _, p := range []api.Program{of(e), of(fn(e, "x")), of(app(fn(v("x"), "x"), e))} {
			if got, err := lift.Lift(p); err != api.ErrMany || !reflect.DeepEqual(got, api.Program{}) {
				t.Error(i, err)
			}
		}
	}
}
