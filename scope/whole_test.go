package scope_test

import (
	"math/rand/v2"
	"reflect"
	"slices"
	"strconv"
	"strings"
	"testing"

	"gristmill/api"
	"gristmill/lex"
	"gristmill/scope"
	"gristmill/syn"
)

// rightTexts have between them each form of the language.
var rightTexts = []string{
	"(data T a b (C a (T b a)) D) (data U (E (-> U Int) (T Int U))) (def f x y (let ((x (y z)) (z (C x D))) (case x ((C y x) (f y x)) (D E) (_ z)))) (def main (f 1 2))",
	"(def main (fn (x y) ((fn (x z) (x y z)) y x))) (data L a N (C a (L a))) (def g x (case (g x) ((C h r) (+ h (g r))) (N (fail 0)) (1 x)))",
	"(data T A) (data U a (B a)) (def main A) (def f x (B x)) (def g (let ((x (f y)) (y f)) (g x)))",
}

// alter replaces, leaves out or puts in a word at a place.
func alter(words []string, place, how int, word string) []string {
	l := slices.Clone(words)
	switch how {
	case 0:
		l[place] = word
	case 1:
		l = slices.Delete(l, place, place+1)
	default:
		l = slices.Insert(l, place, word)
	}
	return l
}

func wordsOf(t *testing.T, s string) (l []string) {
	t.Helper()
	words, err := lex.Words(s)
	if err != nil {
		t.Fatal(err)
	}
	for _, w := range words {
		l = append(l, w.Text)
	}
	return l
}

// seen counts what Check told.
type seen map[string]int

// check holds Check against the model for the program of the words, if they are one.
func (n seen) check(t *testing.T, words []string) {
	t.Helper()
	p, err := syn.Parse(strings.Join(words, " "))
	if err != nil {
		return
	}
	got, want := scope.Check(p), modelCheck(p)
	if !reflect.DeepEqual(got, want) {
		t.Errorf("%q: %v; want %v", words, got, want)
	}
	told := "right"
	if want != nil {
		told = want.Error()
	}
	n[told]++
}

// want is that each of what may be told was told so often.
func (n seen) want(t *testing.T, often int) {
	t.Helper()
	for _, told := range []string{"right", api.ErrMain.Error()} {
		if n[told] < often {
			t.Errorf("%s: %d times", told, n[told])
		}
	}
	for place := range 4 {
		for _, err := range []error{api.ErrTwice, api.ErrNone, api.ErrArity} {
			told := &api.At{Pos: place, Err: err}
			if n[told.Error()] < often && (place < 3 || err != api.ErrArity) {
				t.Errorf("%v: %d times", told, n[told.Error()])
			}
		}
	}
}

func TestCheckOfAlteredPrograms(t *testing.T) {
	n := seen{}
	for _, s := range rightTexts {
		wantRight(t, s)
		words := wordsOf(t, s)
		pool := slices.Compact(slices.Sorted(slices.Values(append(words, "w", "W", "Int", "Float"))))
		for place := range words {
			for _, word := range pool {
				for how := range 3 {
					n.check(t, alter(words, place, how, word))
				}
			}
		}
	}
	n.want(t, 3)
}

// Where several errors hold, it is the first.
func TestCheckOfProgramsAlteredOften(t *testing.T) {
	n := seen{}
	r := rand.New(rand.NewPCG(6, 1))
	for _, s := range rightTexts {
		words := wordsOf(t, s)
		var names []string
		for _, word := range words {
			if lex.Name(word) || lex.Upper(word) {
				names = append(names, word)
			}
		}
		names = append(names, "w", "W", "Int")
		for range 6000 {
			l := words
			for range 2 + r.IntN(3) {
				place := r.IntN(len(l))
				if !slices.Contains(names, l[place]) {
					continue
				}
				l = alter(l, place, r.IntN(3), names[r.IntN(len(names))])
			}
			n.check(t, l)
		}
	}
	n.want(t, 20)
}

// names is n names that begin with s, with a space ahead of each.
func names(s string, n int) string {
	var b strings.Builder
	for i := range n {
		b.WriteString(" " + s + strconv.Itoa(i))
	}
	return b.String()
}

// wide is a program of as many data and definitions as there may be; the name is of the first definition, which the last one uses.
func wide(name string) string {
	var b strings.Builder
	first := name
	for i := range api.MaxDefs {
		n := strconv.Itoa(i)
		b.WriteString("(data T" + n + names("A"+n+"_", 30) + ")(def " + name)
		name = "f" + strconv.Itoa(i+1)
		b.WriteString(" " + name + ")")
	}
	return strings.Replace(b.String(), " f200)", " "+first+")", 1)
}

func TestCheckOfAsManyAsThereMayBe(t *testing.T) {
	s := wide("main")
	wantRight(t, s)
	wantError(t, bare, api.ErrMain, wide("f0"))
	wantError(t, 199, api.ErrTwice, strings.Replace(s, "A199_29", "A0_0", 1), strings.Replace(s, "data T199", "data T0", 1))
	wantError(t, 399, api.ErrTwice, strings.ReplaceAll(s, "f199", "f198"), strings.ReplaceAll(s, "f199", "main"))
	wantError(t, 399, api.ErrNone, strings.Replace(s, " main)", " f0)", 1))
	// A data with as many constructors as it may have, of as many types.
	sixty := " (C" + strings.Repeat(" a", 60) + ")" + names("D", 59)
	wantRight(t, "(data T a"+sixty+") (def main (case 1 ((C"+names("x", 60)+") x59) (D58 1)))")
	wantError(t, 1, api.ErrArity, "(data T a"+sixty+") (def main (case 1 ((C"+names("x", 59)+") x58)))")
	wantError(t, 1, api.ErrTwice, "(data T a"+sixty+") (def main (case 1 ((C"+names("x", 59)+" x0) x58)))")
	wantError(t, 0, api.ErrTwice, "(data T a"+strings.Replace(sixty, "D58", "C", 1)+") (def main 1)")
	wantError(t, 0, api.ErrNone, "(data T a"+strings.Replace(sixty, "a)", "b)", 1)+") (def main 1)")
}

func TestCheckOfDeepPrograms(t *testing.T) {
	nest := func(n int, open, inner, close string) string {
		return strings.Repeat(open, n) + inner + strings.Repeat(close, n)
	}
	// What is bound outermost is bound innermost; what was bound between is not, behind it.
	wantRight(t, "(def main (fn (x) "+nest(98, "(fn (y) ", "(x y)", ")")+"))")
	wantError(t, 0, api.ErrNone, "(def main (fn (x) "+nest(98, "(fn (y) ", "z", ")")+"))", "(def main ("+nest(98, "(fn (y) ", "y", ")")+" y))", "(def main ("+nest(60, "(let ((y y)) ", "y", ")")+" y))", "(def main ("+nest(60, "(case 1 (_ ", "y", "))")+" 1))")
	wantRight(t, "(def main "+nest(190, "(fn (y) ", "y", ")")+")")
	wantRight(t, "(data T a (C "+nest(190, "(T ", "a", ")")+")) (def main 1)")
	wantError(t, 0, api.ErrNone, "(data T a (C "+nest(190, "(T ", "b", ")")+")) (def main 1)")
	wantError(t, 0, api.ErrArity, "(data T a (C "+nest(190, "(T ", "T", ")")+")) (def main 1)")
}

// behind is a right program with lists that have something wrong behind their lengths, and these lists up to there.
func behind() (api.Program, []any) {
	x := api.Expr{Op: api.Var, Name: "x"}
	params, args := []string{"a", "a"}, []api.Type{{Name: "a"}, {Name: "b"}}
	cons := []api.Cons{{Name: "C", Args: args[:1]}, {Name: "C"}}
	datas := []api.Data{{Name: "T", Params: params[:1], Cons: cons[:1]}, {Name: "T"}, {Name: "U", Cons: []api.Cons{{Name: "D"}}}}
	taken, bound, given := []string{"x", "x"}, []string{"x", "x"}, []string{"y", "y"}
	alts := []api.Alt{{Take: api.TakeCon, Name: "C", Names: taken[:1], E: x}, {Take: api.TakeCon, Name: "E"}}
	looked := []api.Expr{x, {Op: api.Con, Name: "E"}}
	parts := []api.Expr{{Op: api.Case, L: looked[:1], Alts: alts[:1]}, {Op: api.Var, Name: "z"}}
	defs := []api.Def{{Name: "f", Params: given[:1], Body: api.Expr{Op: api.Fn, Names: bound[:1], L: parts[:1]}}, {Name: "main", Body: api.Expr{Op: api.Int}}, {Name: "f"}, {Name: "g"}}
	return api.Program{Datas: datas[:1], Defs: defs[:2]}, []any{params, args, cons, datas, taken, bound, given, alts, looked, parts, defs}
}

func TestWhatIsHandedInIsNeitherChangedNorReadBehindItsLength(t *testing.T) {
	p, lists := behind()
	_, kept := behind()
	for range 3 {
		if err := scope.Check(p); err != nil {
			t.Error(err)
		}
		for _, name := range []string{"D", "U", "g", "E"} {
			wantCons(t, p, name, 0, 0, false)
			wantData(t, p, name, 0, false)
			wantDef(t, p, name, 0, false)
		}
	}
	if !reflect.DeepEqual(lists, kept) {
		t.Errorf("%v; they were %v", lists, kept)
	}
}

// What was told of one program is nothing to the next one.
func TestCallsHangOnTheirProgramAlone(t *testing.T) {
	for range 3 {
		wantRight(t, rightTexts...)
		wantError(t, 0, api.ErrNone, "(def main (fn (x) (x y)))", "(def main C)", "(data U (C T))", "(def main (x (fn (x) x)))")
		wantError(t, 0, api.ErrTwice, "(data T a a)", "(def main (fn (x x) 1))")
	}
}
