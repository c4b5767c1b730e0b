package syn_test

import (
	"math"
	"reflect"
	"strings"
	"testing"

	"gristmill/api"
	"gristmill/flo"
	"gristmill/syn"
)

func TestText(t *testing.T) {
	x, y := vr("x"), vr("y")
	for _, c := range []struct {
		p    api.Program
		want string
	}{
		{api.Program{}, ""},
		{body(prim("+", whole(1), whole(2))), "(def f (+ 1 2))\n"},
		{api.Program{Datas: []api.Data{data("T", ""), data("U", "a b")}, Defs: []api.Def{def("g", "", x), def("f", "x y", y)}}, "(data T)\n(data U a b)\n(def g x)\n(def f x y y)\n"},
		{datas(data("L", "a", cons("C", ty("a"), ty("L", ty("a"))), cons("N"))), "(data L a (C a (L a)) N)\n"},
		{datas(data("T", "", cons("C", ty("->", ty("Int"), ty("T", ty("a"), ty("U", ty("b")))), ty("Float")))), "(data T (C (-> Int (T a (U b))) Float))\n"},
		{body(con("C")), "(def f C)\n"}, {body(whole(-7)), "(def f -7)\n"}, {body(whole(math.MinInt64)), "(def f -9223372036854775808)\n"}, {body(float(math.Float64bits(1.5))), "(def f 3p-1)\n"}, {body(float(1 << 63)), "(def f -0p0)\n"}, {body(float(flo.NaN)), "(def f nan)\n"}, {body(float(0xfff << 52)), "(def f -inf)\n"},
		{body(fail(7)), "(def f (fail 7))\n"}, {body(app(x, app(y, x), con("C"))), "(def f (x (y x) C))\n"}, {body(prim("float", prim("f/", x, y))), "(def f (float (f/ x y)))\n"},
		{body(fn("x", y)), "(def f (fn (x) y))\n"}, {body(fn("x y", app(x, y))), "(def f (fn (x y) (x y)))\n"},
		{body(let("x", y, x)), "(def f (let ((x y)) x))\n"}, {body(let("x y", app(x, y), fn("x", x), app(y, x))), "(def f (let ((x (x y)) (y (fn (x) x))) (y x)))\n"},
		{body(cases(x, ofAny(y))), "(def f (case x (_ y)))\n"}, {body(cases(app(x, y), ofInt(-1, x), ofCon("C", "", y), ofCon("D", "x y", app(x, y)), ofAny(fail(0)))), "(def f (case (x y) (-1 x) (C y) ((D x y) (x y)) (_ (fail 0))))\n"},
	} {
		if got := syn.Text(c.p); got != c.want {
			t.Errorf("Text: %q; want %q", got, c.want)
		}
	}
}

// again holds what Parse answers of the program's Text against the program.
func again(t *testing.T, p api.Program) {
	t.Helper()
	s := syn.Text(p)
	q, err := syn.Parse(s)
	if err != nil || !syn.Same(p, q) || !syn.Same(q, p) || syn.Valid(p) != nil || syn.Text(q) != s {
		t.Fatalf("%s: Valid %v, its Text %.300q, read again %s, %v", show(p), syn.Valid(p), s, show(q), err)
	}
}

func TestParseOfTextIsTheSame(t *testing.T) {
	m := &maker{}
	for range 5000 {
		again(t, m.program())
	}
	for _, e := range rightExprs() {
		again(t, body(e))
	}
}

func TestParseOfTextOfNumbers(t *testing.T) {
	m := &maker{}
	x := vr("x")
	for range 2000 {
		n := m.whole()
		again(t, body(app(whole(n), float(m.bits()), fail(m.fault()))))
		again(t, body(cases(x, ofInt(n, x), ofInt(-n, x))))
	}
	for i := range 64 {
		n := int64(1) << i
		again(t, body(app(whole(n), whole(-n), whole(n-1), whole(-n-1), float(flo.Canon(uint64(n))), float(flo.Canon(uint64(n-1))))))
		again(t, body(cases(x, ofInt(n, x), ofInt(-n, x), ofInt(n-1, x))))
	}
	// A whole number and a float, and floats, are told apart.
	for i, a := range []api.Expr{whole(0), whole(1), float(0), float(1 << 63), float(flo.OfInt(1)), float(1), float(flo.NaN), float(0x7ff << 52)} {
		for j, b := range []api.Expr{whole(0), whole(1), float(0), float(1 << 63), float(flo.OfInt(1)), float(1), float(flo.NaN), float(0x7ff << 52)} {
			if (syn.Text(body(a)) == syn.Text(body(b))) != (i == j) || syn.Same(body(a), body(b)) != (i == j) {
				t.Errorf("%s and %s", show(a), show(b))
			}
		}
	}
}

// What Parse answers has canonical floats, and faults that a program may name.
func TestParseAnswersCanonicalNumbers(t *testing.T) {
	p, err := syn.Parse("(def f (nan (fail 2147483647) (fail 0) -inf))")
	if err != nil || uint64(p.Defs[0].Body.L[0].N) != 0x7ff8000000000000 || p.Defs[0].Body.L[1].N != 1<<31-1 || uint64(p.Defs[0].Body.L[3].N) != 0xfff<<52 {
		t.Errorf("%s, %v", show(p), err)
	}
}

// spoil alters one field, or the length of one list, somewhere in what v is of.
func (m *maker) spoil(v reflect.Value) {
	switch v.Kind() {
	case reflect.Struct:
		m.spoil(v.Field(m.below(v.NumField())))
	case reflect.Slice:
		at := m.below(v.Len() + 1)
		switch {
		case at < v.Len() && m.below(5) > 0:
			m.spoil(v.Index(at))
		case at < v.Len():
			v.Set(reflect.AppendSlice(v.Slice(0, at), v.Slice(at+1, v.Len())))
		case v.Len() > 0:
			v.Set(reflect.Append(v, v.Index(m.below(v.Len()))))
		default:
			v.Set(reflect.Append(v, reflect.New(v.Type().Elem()).Elem()))
		}
	case reflect.String:
		v.SetString(pick(m, "", "x", "C", "->", "+", "float", "fn", "_", "1", "3p0", "inf", "x y", ")", "x;", "\u00e9", "case"))
	default:
		v.SetInt(pick(m, 0, int64(m.below(12)), -1, 1<<31, int64(m.state), math.MaxInt64))
	}
}

// Valid takes just the programs that come back from their Text: of one that it refuses, Parse of Text is another one, or an error.
func TestValidTakesWhatParseOfTextGivesBack(t *testing.T) {
	m := &maker{state: 7}
	taken := 0
	for range 12000 {
		p := syn.Clone(m.program())
		for range 1 + m.below(2) {
			m.spoil(reflect.ValueOf(&p).Elem())
		}
		err := syn.Valid(p)
		q, parseErr := syn.Parse(syn.Text(p))
		if (err == nil) != (parseErr == nil && syn.Same(p, q)) {
			t.Fatalf("%s: Valid %v, its Text %q, read again %s, %v", show(p), err, syn.Text(p), show(q), parseErr)
		}
		if err == nil {
			taken++
			continue
		}
		at, ok := err.(*api.At)
		if ok != (err != api.ErrMany) || ok && (at.Pos < 0 || at.Pos >= len(p.Datas)+len(p.Defs)) {
			t.Fatalf("%s: Valid %v", show(p), err)
		}
	}
	if taken < 500 || taken > 11500 {
		t.Errorf("Valid took %d", taken)
	}
}

// No call ends otherwise than it has to where the program is none.
func TestCallsOfAnyProgram(t *testing.T) {
	m := &maker{state: 3}
	for range 3000 {
		p := syn.Clone(m.program())
		for range 20 {
			m.spoil(reflect.ValueOf(&p).Elem())
		}
		_, _ = syn.Valid(p), syn.Text(p)
		if q := syn.Clone(p); !syn.Same(p, q) || !syn.Same(q, p) || syn.Size(p) != syn.Size(q) {
			t.Fatalf("%s", show(p))
		}
	}
	e, tp := vr("x"), ty("a")
	for range 1 << 16 {
		e, tp = fn("x", e), ty("T", tp)
	}
	deep := api.Program{Datas: []api.Data{data("T", "", cons("C", tp))}, Defs: []api.Def{def("f", "", e)}}
	if syn.Size(deep) != 2<<16+2 || !syn.Same(deep, syn.Clone(deep)) || syn.Valid(deep) != api.ErrMany || len(syn.Text(deep)) != 13<<16+25 {
		t.Errorf("2^16 levels: Size %d, %d bytes, %v", syn.Size(deep), len(syn.Text(deep)), syn.Valid(deep))
	}
	for _, e := range []api.Expr{{}, {Op: api.App}, {Op: api.Fn}, {Op: api.Let}, {Op: api.Let, Names: []string{"x", "y"}}, {Op: api.Let, L: many(3, vr("x"))}, {Op: api.Case}, {Op: api.Case, Alts: make([]api.Alt, 1)}, {Op: api.Prim}, {Op: -1}, {Op: 99, L: make([]api.Expr, 2)}} {
		if _, ok := syn.Valid(body(e)).(*api.At); !ok || !strings.HasPrefix(syn.Text(body(e)), "(def f") {
			t.Errorf("%s", show(e))
		}
	}
}
