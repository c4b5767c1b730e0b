package syn_test

import (
	"math"
	"reflect"
	"strings"
	"testing"

	"gristmill/api"
	"gristmill/flo"
	"gristmill/num"
	"gristmill/syn"
)

// wantFault holds what Valid tells against an At around want; against want alone, if place is below 0.
func wantFault(t *testing.T, what any, p api.Program, place int, want error) {
	t.Helper()
	err := syn.Valid(p)
	at, _ := err.(*api.At)
	if (at != nil) != (place >= 0) || at != nil && *at != (api.At{Pos: place, Err: want}) || at == nil && err != want {
		t.Errorf("%s: %v; want %d: %v", show(what), err, place, want)
	}
}

func wantValid(t *testing.T, what any, p api.Program) {
	t.Helper()
	wantFault(t, what, p, -1, nil)
}

// wantExpr holds what Valid tells of e as a body, and as a part of each expression that may have it; nil: it is right.
func wantExpr(t *testing.T, e api.Expr, want error) {
	t.Helper()
	x := vr("x")
	for _, whole := range []api.Expr{e, app(e, x), app(x, x, e), fn("x", e), let("x", e, x), let("x y", x, e, x), let("x", x, e), cases(e, ofAny(x)), cases(x, ofAny(x), ofAny(e), ofAny(x)), prim("float", e), prim("+", x, e), app(app(x, fn("x", e)), x)} {
		p := body(whole)
		if want == nil {
			wantValid(t, p, p)
		} else {
			wantFault(t, p, p, 0, want)
		}
	}
}

func wantExprs(t *testing.T, want error, l ...api.Expr) {
	t.Helper()
	for _, e := range l {
		wantExpr(t, e, want)
	}
}

// rightExprs is an expression of each form, and those with as much as they may have.
func rightExprs() []api.Expr {
	x, y := vr("x"), app(vr("x"), vr("y"))
	names := rep(60, "x")
	return []api.Expr{
		x, con("C"), whole(0), whole(math.MinInt64), whole(math.MaxInt64),
		float(0), float(1 << 63), float(flo.NaN), float(0x7ff << 52), float(0xfff << 52), float(1), float(0x7fefffffffffffff),
		fail(0), fail(1), fail(math.MaxInt32),
		app(x, y), app(many(61, y)...),
		fn("x", y), fn("x x", y), fn(names, y),
		let("x", x, y), let("x x", x, y, x), let(names, many(61, y)...),
		cases(y, ofAny(x)), cases(y, many(60, ofAny(x))...),
		cases(x, ofInt(0, y), ofInt(math.MinInt64, y), ofInt(math.MaxInt64, y), ofCon("C", "", y), ofCon("C", "x x", y), ofCon("C", names, y), ofAny(y), ofAny(y)),
		prim("float", y), prim("seq", x, y),
	}
}

func TestValidExpressions(t *testing.T) {
	wantExprs(t, nil, rightExprs()...)
	for _, name := range num.Prims() {
		args, _ := num.Arity(name)
		for n := range 5 {
			e := prim(name, many(n, vr("x"))...)
			if n == args {
				wantExpr(t, e, nil)
			} else {
				wantExpr(t, e, api.ErrForm)
			}
		}
	}
}

// fields is which fields an expression of an Op has, as package api tells it.
func fields(op int) string {
	switch op {
	case api.Var, api.Con:
		return "Name"
	case api.Int, api.Flo, api.Fail:
		return "N"
	case api.App:
		return "L"
	case api.Fn, api.Let:
		return "Names L"
	case api.Case:
		return "L Alts"
	}
	return "Name L"
}

// A field that an expression does not have is empty.
func TestValidFieldsOfExpressions(t *testing.T) {
	x := vr("x")
	for _, e := range rightExprs() {
		for _, field := range []string{"Name", "N", "Names", "L", "Alts"} {
			if strings.Contains(" "+fields(e.Op)+" ", " "+field+" ") {
				continue
			}
			for _, value := range []any{"x", "C", "+", int64(1), int64(-1), []string{"x"}, []string{""}, []api.Expr{x}, []api.Expr{x, x}, []api.Alt{ofAny(x)}, []api.Alt{{}}} {
				f := e
				v := reflect.ValueOf(&f).Elem().FieldByName(field)
				if v.Type() == reflect.TypeOf(value) {
					v.Set(reflect.ValueOf(value))
					wantExpr(t, f, api.ErrForm)
				}
			}
		}
	}
	// nil and the empty list are the same.
	none := api.Expr{Names: []string{}, L: []api.Expr{}, Alts: []api.Alt{}}
	for _, e := range rightExprs() {
		for _, field := range []string{"Names", "L", "Alts"} {
			if v := reflect.ValueOf(&e).Elem().FieldByName(field); v.Len() == 0 {
				v.Set(reflect.ValueOf(none).FieldByName(field))
			}
		}
		wantExpr(t, e, nil)
	}
}

func TestValidForms(t *testing.T) {
	x := vr("x")
	for _, op := range []int{0, -1, 11, math.MaxInt, math.MinInt} {
		wantExprs(t, api.ErrForm, api.Expr{Op: op}, api.Expr{Op: op, Name: "x"}, api.Expr{Op: op, L: many(2, x)})
	}
	for _, e := range []api.Expr{app(), app(x), fn("", x), {Op: api.Fn, Names: []string{"x"}}, {Op: api.Fn, Names: []string{"x"}, L: many(2, x)}, {Op: api.Fn}, let(""), let("", x), let("", x, x), let("x"), let("x", x), let("x", x, x, x), let("x y", x, x), let("x y", x, x, x, x), cases(x), {Op: api.Case, Alts: []api.Alt{ofAny(x)}}, {Op: api.Case, L: many(2, x), Alts: []api.Alt{ofAny(x)}}, {Op: api.Case}, {Op: api.Prim}, prim("x", x, x), prim("", x, x), prim("", x), prim("C", x, x), prim("fn", x, x), prim("++", x, x), fail(-1), fail(1 << 31), fail(math.MinInt64), fail(math.MaxInt64)} {
		wantExpr(t, e, api.ErrForm)
	}
	for _, bits := range []uint64{flo.NaN + 1, flo.NaN | 1<<63, 0x7ff<<52 | 1, 0xfff<<52 | 1, math.MaxUint64, math.MaxInt64} {
		wantExpr(t, float(bits), api.ErrForm)
	}
}

// alts is a Case in which the Alt stands first, last, and between others.
func alts(a api.Alt) []api.Expr {
	x := vr("x")
	return []api.Expr{cases(x, a), cases(x, ofAny(x), a), cases(x, a, ofInt(1, x)), cases(x, ofCon("C", "x", x), a, ofAny(x))}
}

func TestValidAlts(t *testing.T) {
	x := vr("x")
	for _, take := range []int{0, -1, 4, math.MaxInt} {
		wantExprs(t, api.ErrForm, alts(api.Alt{Take: take, E: x})...)
		wantExprs(t, api.ErrForm, alts(api.Alt{Take: take, Name: "C", E: x})...)
	}
	for _, a := range []api.Alt{
		{Take: api.TakeCon, Name: "C", N: 1, E: x}, {Take: api.TakeCon, N: -1, E: x}, {Take: api.TakeInt, Name: "C", E: x}, {Take: api.TakeInt, Names: []string{"x"}, E: x}, {Take: api.TakeInt, N: 1, Names: []string{""}, E: x},
		{Take: api.TakeAny, Name: "C", E: x}, {Take: api.TakeAny, Name: "_", E: x}, {Take: api.TakeAny, N: 1, E: x}, {Take: api.TakeAny, Names: []string{"x"}, E: x},
	} {
		wantExprs(t, api.ErrForm, alts(a)...)
	}
	for _, take := range []int{api.TakeCon, api.TakeInt, api.TakeAny} {
		a := api.Alt{Take: take, Names: []string{}, E: x}
		if take == api.TakeCon {
			a.Name = "C"
		}
		wantExprs(t, nil, alts(a)...)
		a.E = api.Expr{}
		wantExprs(t, api.ErrForm, alts(a)...)
		a.E = vr("X")
		wantExprs(t, api.ErrName, alts(a)...)
	}
}

func TestValidNames(t *testing.T) {
	x, long := vr("x"), strings.Repeat("a", 41)
	for _, s := range []string{"", "X", "_", "1", "-1", "+", "fn", "float", "nan", "x y", "x-", "(", "\u00e9", long} {
		wantExprs(t, api.ErrName, vr(s))
		for _, names := range [][]string{{s}, {s, "x"}, {"x", s}, {"x", s, "y"}} {
			wantExprs(t, api.ErrName, api.Expr{Op: api.Fn, Names: names, L: []api.Expr{x}}, api.Expr{Op: api.Let, Names: names, L: many(len(names)+1, x)})
			wantExprs(t, api.ErrName, alts(api.Alt{Take: api.TakeCon, Name: "C", Names: names, E: x})...)
			wantFault(t, names, defs(api.Def{Name: "f", Params: names, Body: x}), 0, api.ErrName)
			wantFault(t, names, datas(api.Data{Name: "T", Params: names}), 0, api.ErrName)
		}
		wantFault(t, s, defs(def(s, "", x)), 0, api.ErrName)
	}
	for _, s := range []string{"", "x", "_", "1", "+", "fn", "->", "X Y", "X-", "(C)", "\u00c9", strings.ToUpper(long)} {
		wantExprs(t, api.ErrName, con(s))
		wantExprs(t, api.ErrName, alts(ofCon(s, "", x))...)
		wantExprs(t, api.ErrName, alts(ofCon(s, "x", x))...)
		wantFault(t, s, datas(data(s, "")), 0, api.ErrName)
		for _, l := range [][]api.Cons{{cons(s)}, {cons(s, ty("a"))}, {cons("C"), cons(s)}, {cons(s), cons("C")}} {
			wantFault(t, s, datas(data("T", "", l...)), 0, api.ErrName)
		}
	}
}

func TestValidTypes(t *testing.T) {
	a, bad := ty("a"), ty("+")
	want := func(want error, l ...api.Type) {
		t.Helper()
		for _, x := range l {
			for _, l := range [][]api.Type{{x}, {a, x}, {x, a}, {ty("T", x)}, {ty("T", a, x)}, {ty("->", x, a)}, {ty("->", a, x)}, {ty("->", a, ty("T", ty("U", x)))}} {
				p := datas(data("T", "", cons("C"), cons("D", l...)))
				if want == nil {
					wantValid(t, p, p)
				} else {
					wantFault(t, p, p, 0, want)
				}
			}
		}
	}
	want(nil, a, ty("Int"), ty("Float"), ty("T", a), ty("Int", a, a), ty("->", a, a), ty("T", many(60, a)...), api.Type{Name: "a", Args: []api.Type{}})
	want(api.ErrForm, ty("->"), ty("->", a), ty("->", a, a, a), ty("->", many(61, a)...), ty("a", a), ty("a", a, a), ty("x_1", a), ty("a", many(61, a)...))
	want(api.ErrName, ty(""), ty("+"), ty("fn"), ty("inf"), ty("1"), ty("-"), ty("->>", a, a), ty("_"), ty("T-"), ty(strings.Repeat("a", 41)), ty(strings.Repeat("T", 41)), ty("", a), ty("fn", a), ty("fn", a, a), ty("1", a))
	want(api.ErrMany, ty("T", many(61, a)...))
	// A type's errors in order, ahead of those of its Args, and these in order.
	want(api.ErrForm, ty("->", bad), ty("->", bad, bad, bad), ty("a", bad), ty("T", ty("->"), bad), ty("->", ty("a", bad), bad))
	want(api.ErrName, ty("+", ty("->")), ty("+", many(61, a)...), ty("T", bad, ty("->")), ty("->", bad, ty("->")), ty("->", ty("T", bad), ty("->")))
	want(api.ErrMany, ty("T", many(61, bad)...), ty("T", many(61, ty("->"))...), ty("T", ty("T", many(61, bad)...), ty("->")))
}

func TestValidData(t *testing.T) {
	a, sixty := ty("a"), rep(60, "a")
	wantValid(t, "", api.Program{})
	wantValid(t, "", api.Program{Datas: []api.Data{}, Defs: []api.Def{}})
	for _, d := range []api.Data{data("T", ""), data("Int", ""), data("T", "a a"), data("T", "", cons("T"), cons("T")), data("T", sixty), data("T", sixty, many(60, cons("C", a))...), data("T", "", cons("C", many(60, a)...)), {Name: "T", Params: []string{}, Cons: []api.Cons{{Name: "C", Args: []api.Type{}}}}} {
		wantValid(t, d, datas(d))
	}
	for _, d := range []api.Data{data("T", sixty+" a"), data("T", "", many(61, cons("C"))...), data("T", "", cons("C", many(61, a)...)), data("T", "", cons("C"), cons("C", many(61, a)...), cons("C"))} {
		wantFault(t, d, datas(d), 0, api.ErrMany)
	}
	// In order: the names, how many they are, how many constructors, constructor by constructor.
	for _, d := range []api.Data{data("t", sixty+" a"), data("T", sixty+" A"), data("T", "A", many(61, cons("C"))...), data("T", "A", cons("C", ty("->"))), data("T", "", cons("c", many(61, a)...)), data("T", "", cons("c", ty("->"))), data("T", "", cons("c"), cons("C", ty("->"))), data("T", "", cons("C", ty("1")), cons("C", ty("->")))} {
		wantFault(t, d, datas(d), 0, api.ErrName)
	}
	for _, d := range []api.Data{data("T", sixty+" a", cons("c")), data("T", "", many(61, cons("c"))...), data("T", "", many(61, cons("C", ty("->")))...), data("T", "", cons("C", many(61, ty("->"))...)), data("T", "", cons("C", many(61, ty("1"))...)), data("T", "", cons("C", many(61, a)...), cons("c"))} {
		wantFault(t, d, datas(d), 0, api.ErrMany)
	}
	for _, d := range []api.Data{data("T", "", cons("C", ty("->")), cons("c")), data("T", "", cons("C", ty("->"), ty("1"))), data("T", "", cons("C"), cons("C", a, ty("->")), cons("C", many(61, a)...))} {
		wantFault(t, d, datas(d), 0, api.ErrForm)
	}
}

func TestValidDefs(t *testing.T) {
	x, sixty := vr("x"), rep(60, "x")
	wantValid(t, "", defs(def("f", sixty, x)))
	wantValid(t, "", defs(def("f", "f f x x", x), def("f", "", x)))
	wantFault(t, "61", defs(def("f", sixty+" x", x)), 0, api.ErrMany)
	wantFault(t, "61, a wrong name", defs(def("f", sixty+" X", x)), 0, api.ErrName)
	wantFault(t, "61, a wrong name of f", defs(def("F", sixty+" x", api.Expr{})), 0, api.ErrName)
	wantFault(t, "61, a wrong body", defs(def("f", sixty+" x", api.Expr{})), 0, api.ErrMany)
	wantFault(t, "a wrong name, a wrong body", defs(def("f", "x X", api.Expr{})), 0, api.ErrName)
}

func TestValidLongExpressions(t *testing.T) {
	x, names := vr("x"), rep(61, "x")
	wantExprs(t, api.ErrMany, app(many(62, x)...), fn(names, x), let(names, many(62, x)...), cases(x, many(61, ofAny(x))...))
	wantExprs(t, api.ErrMany, alts(ofCon("C", names, x))...)
	// 61 parts of a Let are right where its names are 60; 61 of what is applied and its arguments, too.
	wantExprs(t, nil, app(many(61, x)...), let(rep(60, "x"), many(61, x)...))
}

// An expression's errors: form, names, how many; ahead of those of its parts, L and then Alts, in order.
func TestValidTellsTheFirstErrorOfExpressions(t *testing.T) {
	x, noForm, noName, long := vr("x"), api.Expr{}, vr("X"), app(many(62, vr("x"))...)
	names := rep(61, "x")
	wantExprs(t, api.ErrForm,
		api.Expr{Op: api.App, Name: "X", L: many(62, noName)}, api.Expr{Op: api.Var, Name: "X", N: 1}, api.Expr{Op: api.Fn, Names: []string{"X"}, L: many(2, noName)}, let("X"+names, noName), cases(noName),
		cases(noName, ofCon("c", names, noName), api.Alt{}), cases(long, ofCon("C", "X", x), ofInt(1, x), api.Alt{Take: api.TakeInt, Name: "C", E: x}), cases(x, append(many(61, ofAny(x)), api.Alt{})...),
		app(noForm, noName), app(x, noForm, long), app(app(x, noForm), noName), let("x", noForm, noName), cases(noForm, ofAny(noName)), cases(x, ofAny(noForm), ofAny(noName)), cases(app(x, noForm), ofAny(noName)))
	wantExprs(t, api.ErrName,
		fn("X"+names, noForm), fn(names+" X", noForm), let("X", noForm, noForm), cases(noForm, ofCon("c", "", noForm)), cases(long, ofCon("C", names+" X", noForm)), cases(noForm, append(many(61, ofAny(noForm)), ofCon("c", "", x))...), cases(x, ofCon("C", names, x), ofCon("C", "X", x)),
		app(noName, noForm), app(x, noName, long), let("x y", x, noName, noForm), let("x", x, noName), cases(noName, ofAny(noForm)), cases(x, ofAny(noName), ofAny(noForm)), cases(x, ofAny(app(x, noName)), ofAny(noForm)), prim("+", noName, noForm))
	wantExprs(t, api.ErrMany,
		app(many(62, noForm)...), fn(names, noForm), let(names, many(62, noName)...), cases(noForm, many(61, ofAny(noName))...), cases(noForm, ofAny(x), ofCon("C", names, noForm)), app(long, noForm), app(x, long, noName), cases(long, ofAny(noForm)), cases(x, ofAny(long), ofAny(noForm)))
}

// Data by data, then definition by definition, around the place of the first that is wrong.
func TestValidPlaces(t *testing.T) {
	right, x := data("T", ""), vr("x")
	for n := range 4 {
		p := api.Program{Datas: many(n, right), Defs: many(3, def("f", "", x))}
		wantValid(t, n, p)
		for place := range n {
			q := syn.Clone(p)
			q.Datas[place].Name = "t"
			wantFault(t, q, q, place, api.ErrName)
			q.Defs[0].Body.Op = 0
			wantFault(t, q, q, place, api.ErrName)
			q.Datas[n-1].Params = many(61, "x")
			if place < n-1 {
				wantFault(t, q, q, place, api.ErrName)
			}
		}
		for place := range 3 {
			q := syn.Clone(p)
			q.Defs[place].Body.N = 1
			wantFault(t, q, q, n+place, api.ErrForm)
			q.Defs[2].Name = "F"
			if place < 2 {
				wantFault(t, q, q, n+place, api.ErrForm)
			}
		}
	}
}

func TestValidAtMaxDefs(t *testing.T) {
	l, m := many(api.MaxDefs, data("T", "")), many(api.MaxDefs, def("f", "", vr("x")))
	wantValid(t, "MaxDefs", api.Program{Datas: l, Defs: m})
	for _, p := range []api.Program{{Datas: append(l, l[0])}, {Defs: append(m, m[0])}, {Datas: append(l, l[0]), Defs: m}, {Datas: l, Defs: append(m, m[0])}, {Datas: make([]api.Data, 201)}, {Defs: make([]api.Def, 201)}} {
		wantFault(t, "MaxDefs and 1", p, -1, api.ErrMany)
	}
}

func TestValidAtMaxSize(t *testing.T) {
	types := api.Program{Datas: many(2, data("T", "", many(60, cons("C", many(60, ty("a"))...))...))}
	// The parts of an alternative count wherever it stands, the last of all, too.
	alternatives := body(cases(vr("x"), many(30, ofAny(sizedExpr(60)))...))
	for name, p := range map[string]api.Program{"expressions": {}, "types": types, "alternatives": alternatives} {
		left := api.MaxSize - syn.Size(p)
		wantValid(t, name, api.Program{Datas: p.Datas, Defs: append(sized(left).Defs, p.Defs...)})
		wantFault(t, name, api.Program{Datas: p.Datas, Defs: append(sized(left+1).Defs, p.Defs...)}, -1, api.ErrMany)
	}
	// It is told ahead of what a data or a definition has, and of the text's length.
	p := sized(api.MaxSize + 1)
	p.Defs[0].Name = "F"
	wantFault(t, "too large, a wrong name", p, -1, api.ErrMany)
	nested := ty("T")
	for range api.MaxSize {
		nested = ty("T", nested)
	}
	wantFault(t, "a type too large", datas(data("T", "", cons("C", nested))), -1, api.ErrMany)
	wantFault(t, "a type as large as may be", datas(data("T", "", cons("C", nested.Args[0]))), 0, api.ErrDeep)
}

// A program that has the same parts at many places, or itself as a part, ends as others do.
func TestValidOfSharedParts(t *testing.T) {
	e := vr("x")
	tp := ty("a")
	for range 100 {
		e, tp = app(e, e), ty("->", tp, tp)
	}
	wantFault(t, "an expression", body(e), -1, api.ErrMany)
	wantFault(t, "a type", datas(data("T", "", cons("C", tp))), -1, api.ErrMany)
	l := []api.Expr{vr("x"), vr("x")}
	l[1] = app(l...)
	l[1].L = l
	wantFault(t, "an expression in itself", body(l[1]), -1, api.ErrMany)
}

// nest is f done n times to e.
func nest[T any](n int, e T, f func(T) T) T {
	for range n {
		e = f(e)
	}
	return e
}

func TestValidAtMaxDeep(t *testing.T) {
	x, a := vr("x"), ty("a")
	in := func(f func(api.Expr) api.Expr) func(int) api.Program {
		return func(n int) api.Program { return body(nest(n, x, f)) }
	}
	types := func(f func(api.Type) api.Type) func(int) api.Program {
		return func(n int) api.Program {
			return datas(data("T", "", cons("C"), cons("D", a, nest(n, a, f))))
		}
	}
	for i, c := range []struct {
		make func(int) api.Program
		most int // of what is nested
	}{
		{in(func(e api.Expr) api.Expr { return app(e, x) }), 199},
		{in(func(e api.Expr) api.Expr { return app(x, x, e, x) }), 199},
		{in(func(e api.Expr) api.Expr { return prim("+", e, x) }), 199},
		{in(func(e api.Expr) api.Expr { return fn("x", e) }), 198},
		{in(func(e api.Expr) api.Expr { return let("y", x, e) }), 197},
		{in(func(e api.Expr) api.Expr { return let("x y", x, e, x) }), 66},
		{in(func(e api.Expr) api.Expr { return cases(e, ofAny(x)) }), 198},
		{in(func(e api.Expr) api.Expr { return cases(e, ofCon("C", "x", x)) }), 197},
		{in(func(e api.Expr) api.Expr { return cases(x, ofAny(x), ofAny(e)) }), 99},
		{types(func(t api.Type) api.Type { return ty("T", t) }), 198},
		{types(func(t api.Type) api.Type { return ty("->", a, t) }), 198},
	} {
		p := c.make(c.most)
		wantValid(t, i, p)
		if q, err := syn.Parse(syn.Text(p)); err != nil || !syn.Same(p, q) {
			t.Errorf("%d: its Text read again: %v", i, err)
		}
		wantFault(t, i, c.make(c.most+1), 0, api.ErrDeep)
		wantFault(t, i, c.make(4000), 0, api.ErrDeep)
	}
	wantValid(t, "fail", body(nest(198, fail(1), func(e api.Expr) api.Expr { return app(x, e) })))
	wantFault(t, "fail", body(nest(199, fail(1), func(e api.Expr) api.Expr { return app(x, e) })), 0, api.ErrDeep)
}

// That it is too deep is told behind the other errors of the same data or definition, and ahead of those of the next.
func TestValidTellsDeepLast(t *testing.T) {
	deep := nest(200, vr("x"), func(e api.Expr) api.Expr { return app(vr("x"), e) })
	deepType := nest(200, ty("a"), func(t api.Type) api.Type { return ty("T", t) })
	wrong := nest(200, vr("X"), func(e api.Expr) api.Expr { return app(vr("x"), e) })
	deepData := data("T", "", cons("C", deepType))
	wantFault(t, "a name in what is deep", body(wrong), 0, api.ErrName)
	wantFault(t, "a name behind what is deep", body(app(deep, vr("X"))), 0, api.ErrName)
	wantFault(t, "a constructor behind what is deep", datas(data("T", "", cons("C", deepType), cons("c"))), 0, api.ErrName)
	wantFault(t, "the next definition", defs(def("f", "", vr("x")), def("f", "", deep), def("F", "", vr("x"))), 1, api.ErrDeep)
	wantFault(t, "the next data", datas(data("T", ""), deepData, data("t", "")), 1, api.ErrDeep)
	wantFault(t, "a definition", api.Program{Datas: []api.Data{data("T", ""), deepData}, Defs: []api.Def{def("F", "", vr("x"))}}, 1, api.ErrDeep)
	wantFault(t, "data ahead", api.Program{Datas: []api.Data{data("T", ""), data("T", "")}, Defs: []api.Def{def("f", "", vr("x")), def("f", "", deep)}}, 3, api.ErrDeep)
}

func TestValidAtMaxText(t *testing.T) {
	for n := range 3 {
		p := lettered(api.MaxText - 1 + n)
		if len(syn.Text(p)) != api.MaxText-1+n {
			t.Fatalf("Text has %d bytes", len(syn.Text(p)))
		}
		if n == 2 {
			wantFault(t, n, p, -1, api.ErrMany)
			last := len(p.Defs) - 1
			p.Defs[last].Body = nest(200, vr("x"), func(e api.Expr) api.Expr { return app(vr("x"), e) })
			wantFault(t, "too long, and too deep", p, last, api.ErrDeep)
			p.Defs[last].Name = "F"
			wantFault(t, "too long, and a wrong name", p, last, api.ErrName)
		} else {
			wantValid(t, n, p)
		}
	}
	// Data are in the text, too.
	long := data("T", "", many(60, cons(strings.Repeat("C", 40)))...)
	p := datas(many(26, long)...)
	wantValid(t, "data", p)
	p.Datas = append(p.Datas, long)
	wantFault(t, "data", p, -1, api.ErrMany)
	p.Datas = p.Datas[:26]
	p.Defs = sized(1000).Defs
	wantFault(t, "data and definitions", p, -1, api.ErrMany)
}
