package syn_test

import (
	"math"
	"reflect"
	"regexp"
	"slices"
	"strings"
	"testing"

	"gristmill/api"
	"gristmill/flo"
	"gristmill/num"
	"gristmill/syn"
	"gristmill/texts"
	"gristmill/tree"
)

func wantProgram(t *testing.T, s string, want api.Program) {
	t.Helper()
	if p, err := syn.Parse(s); !reflect.DeepEqual(p, want) || err != nil {
		t.Errorf("Parse(%.200q): %s, %v; want %s", s, show(p), err, show(want))
	}
}

// wantBody holds e against what is read of it as the body of a definition.
func wantBody(t *testing.T, s string, e api.Expr) {
	t.Helper()
	wantProgram(t, "(def f "+s+")", body(e))
}

// wantError takes the place from a ^ in s, which is left out; without one the error has to be bare.
func wantError(t *testing.T, s string, want error) {
	t.Helper()
	ahead, behind, placed := strings.Cut(s, "^")
	p, err := syn.Parse(ahead + behind)
	at, _ := err.(*api.At)
	if !reflect.DeepEqual(p, api.Program{}) || placed != (at != nil) || placed && *at != (api.At{Pos: len(ahead), Err: want}) || !placed && err != want {
		t.Errorf("Parse(%.200q): %s, %v; want %v", s, show(p), err, want)
	}
}

func wantErrors(t *testing.T, want error, l ...string) {
	t.Helper()
	for _, s := range l {
		wantError(t, s, want)
	}
}

// wantBodyErrors is of texts in the place of a definition's body.
func wantBodyErrors(t *testing.T, want error, l ...string) {
	t.Helper()
	for _, s := range l {
		wantError(t, "(def f "+s+")", want)
	}
}

// rep is n times s, one space ahead of each.
func rep(n int, s string) string { return strings.Repeat(" "+s, n) }

func TestParsePrograms(t *testing.T) {
	for _, x := range []struct {
		s    string
		want api.Program
	}{
		{"(def main (+ 1 2))", defs(def("main", "", prim("+", whole(1), whole(2))))},
		{"", api.Program{}}, {" ; nothing\n", api.Program{}},
		{"(def f x)(data T)\n(def g y) ; (def\n(data U)", api.Program{Datas: []api.Data{data("T", ""), data("U", "")}, Defs: []api.Def{def("f", "", vr("x")), def("g", "", vr("y"))}}},
		{"(def f f)(def f f)", defs(def("f", "", vr("f")), def("f", "", vr("f")))},
		{"(def f x y z)", defs(def("f", "x y", vr("z")))}, {"(def f x x f f)", defs(def("f", "x x f", vr("f")))},
		{"(data T)", datas(data("T", ""))}, {"(data Int)", datas(data("Int", ""))}, {"(data T a b a)", datas(data("T", "a b a"))},
		{"(data T C D)", datas(data("T", "", cons("C"), cons("D")))}, {"(data T T T)", datas(data("T", "", cons("T"), cons("T")))},
		{"(data L a (C a (L a)) N)", datas(data("L", "a", cons("C", ty("a"), ty("L", ty("a"))), cons("N")))},
		{"(data T (C Int Float T a x))", datas(data("T", "", cons("C", ty("Int"), ty("Float"), ty("T"), ty("a"), ty("x"))))},
		{"(data T (C (-> a (-> (T Int (Int a)) b))))", datas(data("T", "", cons("C", ty("->", ty("a"), ty("->", ty("T", ty("Int"), ty("Int", ty("a"))), ty("b"))))))},
	} {
		wantProgram(t, x.s, x.want)
	}
}

func TestParseExpressions(t *testing.T) {
	x, y := vr("x"), vr("y")
	for _, c := range []struct {
		s    string
		want api.Expr
	}{
		{"x", x}, {"datas", vr("datas")}, {"nan_", vr("nan_")}, {"C", con("C")}, {"Fn", con("Fn")}, {"Int", con("Int")},
		{"(x y)", app(x, y)}, {"(C x y C)", app(con("C"), x, y, con("C"))}, {"((x y) (y x))", app(app(x, y), app(y, x))}, {"(1 3p0)", app(whole(1), float(flo.OfInt(3)))}, {"((fn (x) x) y)", app(fn("x", x), y)},
		{"(fn (x) y)", fn("x", y)}, {"(fn (x y x) (fn (f) x))", fn("x y x", fn("f", x))},
		{"(let ((x y)) x)", let("x", y, x)}, {"(let ((x (x y)) (x 1) (y (fn (x) y))) (y x))", let("x x y", app(x, y), whole(1), fn("x", y), app(y, x))},
		{"(case x (_ y))", cases(x, ofAny(y))}, {"(case (x y) (-7 y) (C x) ((D x x y) (y x)) (_ 1) (_ 2))", cases(app(x, y), ofInt(-7, y), ofCon("C", "", x), ofCon("D", "x x y", app(y, x)), ofAny(whole(1)), ofAny(whole(2)))},
		{"(fail 0)", fail(0)}, {"(fail 2147483647)", fail(math.MaxInt32)}, {"(x (fail 7))", app(x, fail(7))},
		{"(float x)", prim("float", x)}, {"(whole (f/ x y))", prim("whole", prim("f/", x, y))}, {"(seq (- 1 -1) (< x y))", prim("seq", prim("-", whole(1), whole(-1)), prim("<", x, y))},
		{"(fn (x) (let ((y x)) (case y (1 (+ x (C y))))))", fn("x", let("y", x, cases(y, ofInt(1, prim("+", x, app(con("C"), y))))))},
	} {
		wantBody(t, c.s, c.want)
	}
	for _, name := range num.Prims() {
		args, _ := num.Arity(name)
		wantBody(t, "("+name+rep(args, "x")+")", prim(name, many(args, x)...))
	}
}

func TestParseNumbers(t *testing.T) {
	for _, n := range []int64{0, 1, -1, 7, -10, math.MaxInt64, math.MinInt64} {
		wantBody(t, num.Text(n), whole(n))
		wantBody(t, "(case 0 ("+num.Text(n)+" 1))", cases(whole(0), ofInt(n, whole(1))))
	}
	for _, a := range []uint64{0, 1 << 63, 1, flo.OfInt(3), flo.OfInt(-3), 0x7ff << 52, 0xfff << 52, flo.NaN, 0x7fefffffffffffff} {
		wantBody(t, flo.Text(a), float(a))
	}
	wantBody(t, "inf", float(math.Float64bits(math.Inf(1))))
	wantBody(t, "-inf", float(math.Float64bits(math.Inf(-1))))
	wantBody(t, "nan", float(0x7ff8000000000000))
	wantBody(t, "3p-1", float(math.Float64bits(1.5)))
	wantBodyErrors(t, api.ErrNumber, "^0x", "^9x", "^1_", "^00", "^01", "^-0", "^-1x", "^-9-", "^-00", "^1.5", "^1p", "^2p0", "^-2p0", "^0p1", "^1p9999", "^9223372036854775808", "^-9223372036854775809", "(x ^1x)", "(^1x x)", "(fn (x) ^-1x)", "(float ^2p0)", "(let ((x ^1y)) x)", "(case ^1x (_ 1))", "(case 1 (_ ^1x))")
	wantBodyErrors(t, api.ErrName, "^-", "^--1", "^-x", "^-nan", "^-Inf", "^-p0", "^+1", "^p0-", "^.5", "^-.5", "^\u0661", "^-_1", "^/1", "^:1", "^-/1", "^-:1")
	wantBodyErrors(t, api.ErrNumber, "(case x (^1p0 1))", "(case x (^-1p0 1))", "(case x (^0p0 1))", "(case x (^1x 1))", "(case x (^-1x 1))", "(case x (^00 1))", "(case x (^-0 1))", "(case x (^9223372036854775808 1))")
	wantBodyErrors(t, api.ErrName, "(case x (^inf 1))", "(case x (^-inf 1))", "(case x (^nan 1))", "(case x (^- 1))", "(case x (^-x 1))")
	wantBodyErrors(t, api.ErrNumber, "(fail ^-1)", "(fail ^2147483648)", "(fail ^9223372036854775807)", "(fail ^9223372036854775808)", "(fail ^1p0)", "(fail ^0p0)", "(fail ^00)", "(fail ^-0)", "(fail ^x)", "(fail ^C)", "(fail ^_)", "(fail ^fail)", "(fail ^-)")
}

func TestParseGivesErrorsOfTree(t *testing.T) {
	wantErrors(t, api.ErrOpen, "^(", "^(def f", "(def ^(f", "(x) ^(def f 1", "x ^(")
	wantErrors(t, api.ErrClose, "^)", "(def f 1)^)", "x (x)^)(")
	wantErrors(t, api.ErrDeep, strings.Repeat("(", 200)+"^(", "(def f "+strings.Repeat("(", 199)+"^("+strings.Repeat(")", 201))
	wantErrors(t, api.ErrMany, strings.Repeat(" ", api.MaxText+1), "x"+strings.Repeat(" ", api.MaxText), strings.Repeat("(", api.MaxText+1))
	wantProgram(t, "(def f 1)"+strings.Repeat(" ", api.MaxText-9), body(whole(1)))
}

func TestParseWrongForms(t *testing.T) {
	wantErrors(t, api.ErrForm, "^x", "^1", "^data", "^def", "^->", "^()", "^(())", "^(foo)", "^(foo f 1)", "^(1)", "^((def) f 1)", "^((def f 1))", "^(Data T)", "^(DEF f 1)", "^(fn (x) x)", "^(case x (_ 1))", "(def f 1) ^x", "(data T) ^(x)", "^x (data t)", "^() x", "^(() x)")
	wantErrors(t, api.ErrForm, "^(data)", "(data ^(T))", "(data ^() T)", "(data T ^())", "(data T ^(C))", "(data T ^(c))", "(data T ^(()))", "(data T (^() a))", "(data T (^(C) a))", "(data T (^(C a) a))", "(data T a ^() C)", "(data T C ^(D))")
	wantErrors(t, api.ErrForm, "(data T (C ^()))", "(data T (C ^(T)))", "(data T (C ^(a)))", "(data T (C ^(Int)))", "(data T (C ^(->)))", "(data T (C ^(-> a)))", "(data T (C ^(-> a b c)))", "(data T (C a ^(()) b))", "(data T (C (^() a)))", "(data T (C (^(T) a)))", "(data T (C (^(-> a b) a)))", "(data T (C (T a ^())))", "(data T (C (-> a ^(-> a))))")
	wantErrors(t, api.ErrForm, "^(def)", "^(def f)", "^(def F)", "(def ^(f) 1)", "(def ^() 1)", "(def f ^(x) 1)", "(def f x ^() 1)", "(def f x ^(y z) (fn (x) x))")
	wantBodyErrors(t, api.ErrForm, "^()", "^(x)", "^(C)", "^(1)", "^(())", "^((x y))", "(^() x)", "(x ^())", "(x y ^(y))", "((x ^(y)) z)", "^(_)", "^(1x)", "^(data)", "^(def)")
	wantBodyErrors(t, api.ErrForm, "^(fn)", "^(fn (x))", "^(fn (x) x x)", "^(fn () )", "(fn ^x x)", "(fn ^() x)", "(fn ^1 x)", "(fn (^(x)) x)", "(fn (x ^()) x)", "(fn (x ^(y) z) x)")
	wantBodyErrors(t, api.ErrForm, "^(let)", "^(let ((x 1)))", "^(let ((x 1)) x x)", "^(let x 1)1", "(let ^x x)", "(let ^() x)", "(let (^x) x)", "(let (^x 1) x)", "(let (^()) x)", "(let (^(x)) x)", "(let (^(x 1 2)) x)", "(let (^(1)) x)", "(let ((^(x) 1)) x)", "(let ((^() 1)) x)", "(let ((x 1) ^(y)) x)", "(let ((x 1) ^y) x)", "(let ((x ^())) x)", "(let ((x 1)) ^())")
	wantBodyErrors(t, api.ErrForm, "^(case)", "^(case x)", "^(case ())", "(case ^() (1 1))", "(case x ^())", "(case x ^x)", "(case x ^1)", "(case x ^_)", "(case x ^(1))", "(case x ^(1 1 1))", "(case x ^(C x y))", "(case x (1 1) ^(1))", "(case x (^() 1))", "(case x (^(C) 1))", "(case x (^(c) 1))", "(case x (^(1) 1))", "(case x (^(_) 1))", "(case x ((^(C) x) 1))", "(case x ((^() x) 1))", "(case x ((C ^(x)) 1))", "(case x ((C x ^()) 1))", "(case x ((C x ^(C x)) 1))", "(case x (1 ^()))", "(case x (1 ^(x)))")
	wantBodyErrors(t, api.ErrForm, "^(fail)", "^(fail 1 2)", "^(fail x y)", "(fail ^(1))", "(fail ^())", "(fail ^(x y))", "(x ^(fail))")
	for _, name := range num.Prims() {
		args, _ := num.Arity(name)
		for n := range 5 {
			if n != args {
				wantBodyErrors(t, api.ErrForm, "^("+name+rep(n, "x")+")", "(f ^("+name+rep(n, "1x")+"))")
			}
		}
	}
}

func TestParseWrongNames(t *testing.T) {
	long := strings.Repeat("a", 41)
	for _, s := range []string{"1", "-1", "_", "-", "+", "fn", "data", "float", "nan", "->", "x-", "f+", "x\u00e9", long} {
		wantErrors(t, api.ErrName, "(def ^"+s+" 1)", "(def f ^"+s+" 1)", "(def f x ^"+s+" y 1)", "(def f (fn (^"+s+") 1))", "(def f (fn (x ^"+s+") 1))", "(def f (let ((^"+s+" 1)) 1))", "(def f (let ((x 1) (^"+s+" 1)) 1))", "(def f (case x ((C ^"+s+") 1)))", "(def f (case x ((C x ^"+s+" y) 1)))", "(data T ^"+s+")", "(data T a ^"+s+" b)", "(data T C ^"+s+")", "(data T (C ^"+s+"))", "(data T (C a ^"+s+"))", "(data T (C (-> ^"+s+" a)))", "(data T (C (-> a ^"+s+")))")
	}
	for _, s := range []string{"X", "Fn", "C_"} {
		wantErrors(t, api.ErrName, "(def ^"+s+" 1)", "(def f ^"+s+" 1)", "(def f (fn (^"+s+") 1))", "(def f (let ((^"+s+" 1)) 1))", "(def f (case x ((C ^"+s+") 1)))")
	}
	for _, s := range []string{"x", "fn", "1", "-1", "_", "-", "+", "f+", "inf", "->", "C-", "C\u00e9", strings.ToUpper(long)} {
		wantErrors(t, api.ErrName, "(data ^"+s+")", "(data T C ^"+s+")", "(data T (C a) ^"+s+" D)", "(data T (^"+s+" a b))", "(def f (case x ((^"+s+" x) 1)))")
		if s != "->" {
			wantErrors(t, api.ErrName, "(data T (C (^"+s+" a b)))", "(data T (C (^"+s+" a)))")
		}
	}
	wantBodyErrors(t, api.ErrName, "^_", "^+", "^fn", "^let", "^case", "^fail", "^data", "^def", "^div", "^seq", "^float", "^->", "^C-", "^X\u00e9", "^x'", "^"+long, "^"+strings.ToUpper(long), "(^_ x)", "(^data T)", "(^def f 1)", "(x ^+)", "(+ ^+ 1)", "(fn (x) ^fn)", "(let ((x ^_)) 1)", "(let ((x 1)) ^_)", "(case ^_ (_ 1))", "(case 1 (_ ^_))")
	wantBodyErrors(t, api.ErrName, "(case x (^y 1))", "(case x (^fn 1))", "(case x (^+ 1))", "(case x (^C- 1))", "(case x (^__ 1))", "(case x ("+"^"+long+" 1))", "(case x ((^_ x) 1))", "(case x (C 1) (^c 1))")
}

// The first of several errors is told: a node's ahead of those of its parts, and these in order.
func TestParseTellsTheFirstError(t *testing.T) {
	wantErrors(t, api.ErrName, "(def ^F 1x)", "(def ^F () ())", "(def f ^X 1x)", "(def f x ^X () )", "(data ^t ())", "(data T (^c ()))", "(data T ^fn ())", "(data T C ^d ())", "(data T (C (^t ())))", "(data T (C ^+ ()))", "(data T (C (T ^+ (T))))", "(data ^t) x", "(def ^F 1) (data t)")
	wantErrors(t, api.ErrForm, "(data ^() C ->)", "(data T (C ^(-> +)))", "(data T (C ^(->)) 1)", "(data T (C ^(T)) 1)", "(data T (C (T ^(T) 1)) 1)", "(data T ^(C) 1)", "(data T (^(C) 1))", "(def ^() ())", "(def f ^() 1x)", "^x (1x)", "^(foo (1x))")
	wantBodyErrors(t, api.ErrForm, "^(+ 1x)", "^(fn 1x)", "^(fn (X) 1x 1x)", "^(let ((X 1x)) 1x 1x)", "(let (^(X)) 1x)", "(let (^(X 1x 1)) 1x)", "^(case 1x)", "(case x ^(1x 1x 1x) 1)", "(case x (^(c) 1x))", "^(fail 1x 1x)", "(fn (^() X) 1x)", "(fn ^X 1x)", "(x ^() 1x)", "(let ((^() 1x)) 1x)")
	wantBodyErrors(t, api.ErrName, "(fn (^X ()) 1x)", "(let ((^X ())) 1x)", "(let ((x 1) (^X ())) 1x)", "(case x ((^c ()) 1x))", "(case x ((C ^X ()) 1x))", "(case x (^c 1x) 1)", "(^_ 1x)", "(+ ^_ 1x)", "(+ ^q@ 1x)", "((x ^_) 1x)")
	wantBodyErrors(t, api.ErrNumber, "(^1x _)", "(+ ^1x _)", "(x (y ^1x) _)", "(fn (x) (^1x _))", "(let ((x ^1x) (X _)) _)", "(let ((x 1) (y ^1x)) _)", "(let ((x 1)) ^1x)", "(case ^1x (2x _))", "(case x (^2x _))", "(case x (2 ^1x) (_ _))", "(case x (2 (x ^1x)) x)", "(case x ((C x) ^1x) (2 3 4))")
	wantErrors(t, api.ErrName, "(def ^F 1) (def f 1x)", "(def f 1) (def ^F 1) (foo)")
	wantErrors(t, api.ErrNumber, "(def f ^1x) (def F 1)", "(def f ^1x)"+strings.Repeat("(def f 1)", 300), "(def f (case x (1 ^1x) (2 _)))")
}

// Lists have no more parts than the language could ever use; Valid tells what is left.
func TestParseAtMostSoManyParts(t *testing.T) {
	x, c := rep(60, "x"), rep(60, "C")
	for _, s := range []string{"(data T" + x + c + ")", "(data T" + c + ")", "(data T (C" + rep(60, "a") + "))", "(data T (C (T" + rep(60, "a") + ")))", "(def f" + x + " 1)", "(def f (fn (" + x + ") 1))", "(def f (let (" + rep(60, "(x 1)") + ") 1))", "(def f (case 1" + rep(60, "(_ 1)") + "))", "(def f (case 1 ((C" + x + ") 1)))", "(def f (x" + x + "))"} {
		if p, err := syn.Parse(s); err != nil || syn.Size(p) == 0 && len(p.Datas) == 0 {
			t.Errorf("Parse(%.200q): %v", s, err)
		}
	}
	wantErrors(t, api.ErrMany, "(data T"+x+" x)", "(data T"+x+" x"+rep(59, "C")+")", "(data T"+c+" C)", "(data T"+rep(120, "x")+")", "(data T"+rep(120, "C")+")", "(data T (C"+rep(61, "a")+"))", "(data T (C (T"+rep(61, "a")+")))", "(def f (fn ("+x+" x) 1))", "(def f (fn ("+x+" x x) 1))", "(def f (let ("+rep(61, "(x 1)")+") 1))", "(def f (let ("+rep(62, "(x 1)")+") 1))", "(def f (case 1 ((C"+x+" x) 1)))", "(def f (x"+x+" x))")
	wantErrors(t, api.ErrMany, "^(data T"+x+c+" C)", "^(data T"+rep(121, "x")+")", "^(data t"+rep(121, "()")+")", "(data T ^(C"+rep(62, "a")+"))", "(data T (C ^(T"+rep(62, "a")+")))", "(data T (C ^(->"+rep(62, "a")+")))", "^(def f"+x+" x 1)", "(def f (fn ^("+x+" x x x) 1))", "(def f (let ^("+rep(63, "(x 1)")+") 1))", "(def f ^(case 1"+rep(61, "(_ 1)")+"))", "(def f (case 1 (^(C"+x+" x x) 1)))", "(def f ^(x"+x+" x x))")
	// Where a list may not stand at all, or has to have fewer parts, too: that it has too many comes first.
	for _, s := range []string{"^(%)", "(data ^(%))", "(data T (^(%) a))", "(data T (C (^(%) a)))", "(def ^(%) 1)", "(def f ^(%) 1)", "(def f ^(%))", "(def f (fn (^(%)) 1))", "(def f (let ((^(%) 1)) 1))", "(def f (let (^(%)) 1))", "(def f (case 1 ^(%)))", "(def f (case 1 ((^(%) x) 1)))", "(def f (case 1 ((C ^(%)) 1)))", "(def f (fail ^(%)))"} {
		wantError(t, strings.Replace(s, "%", rep(63, "x"), 1), api.ErrMany)
		if s != "(def f ^(%))" {
			wantError(t, strings.Replace(s, "%", rep(62, "x"), 1), api.ErrForm)
		}
	}
	for _, word := range []string{"fn", "let", "fail", "+", "float"} {
		wantBodyErrors(t, api.ErrMany, "^("+word+rep(62, "X")+")")
		wantBodyErrors(t, api.ErrForm, "^("+word+rep(61, "X")+")")
	}
	// Only what stands for a data or a definition has as many parts as these.
	for _, word := range []string{"data", "def"} {
		wantBodyErrors(t, api.ErrMany, "^("+word+rep(62, "X")+")")
		wantBodyErrors(t, api.ErrName, "(^"+word+rep(61, "X")+")")
	}
	wantErrors(t, api.ErrMany, "^(foo"+rep(62, "x")+")")
	wantErrors(t, api.ErrForm, "^(foo"+rep(61, "x")+")")
}

// At the end an error of Valid has no place.
func TestParseTellsWhatValidTells(t *testing.T) {
	for _, s := range []string{"(data T)", "(def f 1)"} {
		if p, err := syn.Parse(strings.Repeat(s, api.MaxDefs)); len(p.Datas)+len(p.Defs) != api.MaxDefs || err != nil {
			t.Errorf("MaxDefs times %q: %v", s, err)
		}
		wantError(t, strings.Repeat(s, api.MaxDefs+1), api.ErrMany)
	}
	wantErrors(t, api.ErrNumber, strings.Repeat("(def f 1)", api.MaxDefs+1)+"(def f ^1x)")

	large := syn.Text(sized(api.MaxSize))
	if p, err := syn.Parse(large); syn.Size(p) != api.MaxSize || err != nil {
		t.Errorf("MaxSize: %v", err)
	}
	wantError(t, large+"(def f 1)", api.ErrMany)

	// The Text has a space between two brackets, where the text that is read has none.
	for n := range 3 {
		p := lettered(api.MaxText - 1 + n)
		s := strings.ReplaceAll(syn.Text(p), ") (", ")(")
		if len(s) > api.MaxText-100 {
			t.Fatalf("the text has %d bytes", len(s))
		}
		if n == 2 {
			wantError(t, s, api.ErrMany)
		} else {
			wantProgram(t, s, p)
		}
	}
}

// What a node may be.
const (
	isExpr = 1 << iota
	isName
	isUpper
	isPattern
	isFault
	isType
	isCons
	isNames
	isBound
	isBounds
	isAlt
	isDef // or a data
)

var (
	wholeWord = regexp.MustCompile(`^(0|-?[1-9][0-9]*)$`)
	floatWord = regexp.MustCompile(`^(nan|-?inf|-?0p0|-?[0-9]*[13579]p-?[0-9]+)$`)
	nameWord  = regexp.MustCompile(`^[a-z][a-zA-Z0-9_]*$`)
	upperWord = regexp.MustCompile(`^[A-Z][a-zA-Z0-9_]*$`)
)

// rolesOfWord knows short words alone.
func rolesOfWord(w string) int {
	reserved := []string{"fn", "let", "case", "fail", "data", "def", "div", "mod", "float", "whole", "seq", "inf", "nan"}
	switch {
	case w == "_":
		return isPattern
	case wholeWord.MatchString(w) && w[0] != '-':
		return isExpr | isPattern | isFault
	case wholeWord.MatchString(w):
		return isExpr | isPattern
	case floatWord.MatchString(w):
		return isExpr
	case upperWord.MatchString(w):
		return isExpr | isUpper | isPattern | isType | isCons
	case nameWord.MatchString(w) && !slices.Contains(reserved, w):
		return isExpr | isName | isType
	}
	return 0
}

// roles is all that a node may be, found from its parts up: the language once more, without places and limits.
func roles(n tree.Node) (r int) {
	if n.Word != "" {
		return rolesOfWord(n.Word)
	}
	all := func(l []tree.Node, role int) bool {
		return !slices.ContainsFunc(l, func(n tree.Node) bool { return roles(n)&role == 0 })
	}
	are := func(want ...int) bool {
		for i, role := range want {
			if i >= len(n.L) || roles(n.L[i])&role == 0 {
				return false
			}
		}
		return len(n.L) == len(want)
	}
	add := func(role int, is bool) {
		if is {
			r |= role
		}
	}
	size := len(n.L)
	if size == 0 {
		return 0
	}
	add(isNames, all(n.L, isName))
	add(isBound, are(isName, isExpr))
	add(isBounds, all(n.L, isBound))
	add(isAlt, are(isPattern, isExpr))
	add(isPattern, size > 1 && all(n.L[:1], isUpper) && all(n.L[1:], isName))
	add(isType|isCons, size > 1 && all(n.L[:1], isUpper) && all(n.L[1:], isType))
	behind := n.L[1:]
	args, isPrim := num.Arity(n.L[0].Word)
	switch word := n.L[0].Word; {
	case word == "->":
		add(isType, size == 3 && all(behind, isType))
	case word == "fn":
		add(isExpr, size == 3 && all(n.L[1:2], isNames) && all(n.L[2:], isExpr))
	case word == "let":
		add(isExpr, size == 3 && all(n.L[1:2], isBounds) && all(n.L[2:], isExpr))
	case word == "case":
		add(isExpr, size > 2 && all(n.L[1:2], isExpr) && all(n.L[2:], isAlt))
	case word == "fail":
		add(isExpr, size == 2 && all(behind, isFault))
	case isPrim:
		add(isExpr, size == 1+args && all(behind, isExpr))
	case word == "def":
		add(isDef, size > 2 && all(n.L[1:size-1], isName) && all(n.L[size-1:], isExpr))
	case word == "data":
		add(isDef, size > 1 && all(n.L[1:2], isUpper) && areOfData(n.L[2:]))
	default:
		add(isExpr, size > 1 && all(n.L, isExpr))
	}
	return r
}

// areOfData is whether l is parameters, and then constructors.
func areOfData(l []tree.Node) bool {
	for len(l) > 0 && roles(l[0])&isName != 0 {
		l = l[1:]
	}
	return !slices.ContainsFunc(l, func(n tree.Node) bool { return roles(n)&isCons == 0 })
}

// places is where the nodes stand.
func places(l []tree.Node) (out []int) {
	for _, n := range l {
		out = append(append(out, n.Pos), places(n.L)...)
	}
	return out
}

func checkAgainstGrammar(t *testing.T, s string) {
	t.Helper()
	l, err := tree.Parse(s)
	if err != nil {
		return
	}
	right := !slices.ContainsFunc(l, func(n tree.Node) bool { return roles(n)&isDef == 0 })
	p, err := syn.Parse(s)
	if right != (err == nil) {
		t.Fatalf("Parse(%q): %v; it is right: %v", s, err, right)
	}
	if err != nil {
		at, ok := err.(*api.At)
		if !ok || at.Err != api.ErrForm && at.Err != api.ErrName && at.Err != api.ErrNumber || !slices.Contains(places(l), at.Pos) || len(p.Datas)+len(p.Defs) > 0 {
			t.Fatalf("Parse(%q): %v, %v", s, p, err)
		}
		return
	}
	q, err := syn.Parse(syn.Text(p))
	if err != nil || !syn.Same(p, q) || syn.Valid(p) != nil || len(p.Datas)+len(p.Defs) != len(l) {
		t.Fatalf("Parse(%q): %v, its Text %q, read again %v, %v", s, p, syn.Text(p), q, err)
	}
}

func TestParseOfAllShortTexts(t *testing.T) {
	words := strings.NewReplacer("f", " fn", "!", " fail", "d", " data", "D", " def", ">", " ->", "w", " whole", "x", " x", "C", " C", "1", " 1", "p", " 1p0", "0", " 00", "_", " _", "+", " +")
	for _, x := range []struct {
		ahead, alphabet string
		n               int
		behind          string
	}{
		{"", "()dDxC1", 6, ""}, {"(data T", "()xC>", 7, ")"}, {"(data T (C", "()xC>f", 6, "))"},
		{"(def f", "()xC1+!", 6, ")"}, {"(def f (", "xC1p0f_!w()", 4, "))"}, {"(def f (fn", "()xC1", 6, "))"},
		{"(def f (let", "()x1", 8, "))"}, {"(def f (case x", "()xC1_", 6, "))"}, {"(def f (case x (", "()xC1p_", 5, ")))"}, {"(def f (fail", "()x1p", 4, "))"},
	} {
		for _, s := range texts.All(x.alphabet, x.n) {
			checkAgainstGrammar(t, x.ahead+words.Replace(s)+x.behind)
		}
	}
}
