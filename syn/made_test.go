package syn_test

import (
	"fmt"
	"strings"

	"gristmill/api"
	"gristmill/flo"
	"gristmill/num"
)

// What follows makes expressions of each Op.

func vr(name string) api.Expr { return api.Expr{Op: api.Var, Name: name} }

func con(name string) api.Expr { return api.Expr{Op: api.Con, Name: name} }

func whole(n int64) api.Expr { return api.Expr{Op: api.Int, N: n} }

func float(bits uint64) api.Expr { return api.Expr{Op: api.Flo, N: int64(bits)} }

func fail(n int64) api.Expr { return api.Expr{Op: api.Fail, N: n} }

func app(l ...api.Expr) api.Expr { return api.Expr{Op: api.App, L: l} }

func prim(name string, l ...api.Expr) api.Expr { return api.Expr{Op: api.Prim, Name: name, L: l} }

func fn(names string, e api.Expr) api.Expr {
	return api.Expr{Op: api.Fn, Names: strings.Fields(names), L: []api.Expr{e}}
}

func let(names string, l ...api.Expr) api.Expr {
	return api.Expr{Op: api.Let, Names: strings.Fields(names), L: l}
}

func cases(e api.Expr, l ...api.Alt) api.Expr {
	return api.Expr{Op: api.Case, L: []api.Expr{e}, Alts: l}
}

func ofAny(e api.Expr) api.Alt { return api.Alt{Take: api.TakeAny, E: e} }

func ofInt(n int64, e api.Expr) api.Alt { return api.Alt{Take: api.TakeInt, N: n, E: e} }

// ofCon is nil where it has no names, as Parse has it.
func ofCon(name, names string, e api.Expr) api.Alt {
	return api.Alt{Take: api.TakeCon, Name: name, Names: append([]string(nil), strings.Fields(names)...), E: e}
}

func ty(name string, l ...api.Type) api.Type { return api.Type{Name: name, Args: l} }

func cons(name string, l ...api.Type) api.Cons { return api.Cons{Name: name, Args: l} }

func data(name, params string, l ...api.Cons) api.Data {
	return api.Data{Name: name, Params: append([]string(nil), strings.Fields(params)...), Cons: l}
}

func def(name, params string, e api.Expr) api.Def {
	return api.Def{Name: name, Params: append([]string(nil), strings.Fields(params)...), Body: e}
}

func datas(l ...api.Data) api.Program { return api.Program{Datas: l} }

func defs(l ...api.Def) api.Program { return api.Program{Defs: l} }

// body is a program of one definition, f.
func body(e api.Expr) api.Program { return defs(def("f", "", e)) }

// many is n times what is handed in.
func many[T any](n int, x T) []T {
	var l []T
	for range n {
		l = append(l, x)
	}
	return l
}

// maker makes programs, which hang on its state alone.
type maker struct{ state uint64 }

func (m *maker) below(n int) int {
	m.state = m.state*6364136223846793005 + 1442695040888963407
	return int(m.state >> 33 % uint64(n))
}

func pick[T any](m *maker, l ...T) T { return l[m.below(len(l))] }

func (m *maker) name() string {
	return pick(m, "x", "y", "f", "main", "datas", "infx", "p0", "aB_9", strings.Repeat("z", 40))
}

func (m *maker) upper() string {
	return pick(m, "C", "D", "Int", "Float", "Fn", "P0", "Ab_9", strings.Repeat("Z", 40))
}

// list is a new list of what make makes, of least to most of it.
func list[T any](m *maker, least, most int, make func() T) []T {
	var l []T
	for range least + m.below(most-least+1) {
		l = append(l, make())
	}
	return l
}

func (m *maker) whole() int64 {
	return pick(m, 0, 1, -1, 1<<63-1, -1<<63, int64(m.below(1000))-500, int64(m.state))
}

func (m *maker) bits() uint64 {
	return flo.Canon(pick(m, 0, 1, 1<<63, 0x7ff<<52, 0xfff<<52, flo.NaN, 1<<63-1, flo.OfInt(m.whole()), m.state))
}

func (m *maker) fault() int64 { return pick(m, 0, 1, 1<<31-1, int64(m.below(1<<31))) }

func (m *maker) typ(deep int) api.Type {
	deeper := func() api.Type { return m.typ(deep - 1) }
	switch {
	case deep <= 0 || m.below(3) == 0:
		return ty(pick(m, m.name(), m.upper()))
	case m.below(2) == 0:
		return ty("->", deeper(), deeper())
	}
	return ty(m.upper(), list(m, 1, 3, deeper)...)
}

func (m *maker) atom() api.Expr {
	return pick(m, vr(m.name()), con(m.upper()), whole(m.whole()), float(m.bits()), fail(m.fault()))
}

func (m *maker) expr(deep int) api.Expr {
	deeper := func() api.Expr { return m.expr(deep - 1) }
	if deep <= 0 {
		return m.atom()
	}
	switch m.below(7) {
	case 0:
		return app(list(m, 2, 4, deeper)...)
	case 1:
		return api.Expr{Op: api.Fn, Names: list(m, 1, 3, m.name), L: []api.Expr{deeper()}}
	case 2:
		names := list(m, 1, 3, m.name)
		return api.Expr{Op: api.Let, Names: names, L: list(m, len(names)+1, len(names)+1, deeper)}
	case 3, 4:
		return cases(deeper(), list(m, 1, 3, func() api.Alt { return m.alt(deep - 1) })...)
	case 5:
		name := pick(m, num.Prims()...)
		args, _ := num.Arity(name)
		return prim(name, list(m, args, args, deeper)...)
	}
	return m.atom()
}

func (m *maker) alt(deep int) api.Alt {
	e := m.expr(deep)
	return pick(m, ofAny(e), ofInt(m.whole(), e), api.Alt{Take: api.TakeCon, Name: m.upper(), Names: list(m, 0, 2, m.name), E: e})
}

func (m *maker) cons() api.Cons {
	return cons(m.upper(), list(m, 0, 3, func() api.Type { return m.typ(3) })...)
}

// program is one that Valid takes.
func (m *maker) program() api.Program {
	return api.Program{
		Datas: list(m, 0, 3, func() api.Data {
			return api.Data{Name: m.upper(), Params: list(m, 0, 2, m.name), Cons: list(m, 0, 3, m.cons)}
		}),
		Defs: list(m, 0, 3, func() api.Def {
			return api.Def{Name: m.name(), Params: list(m, 0, 2, m.name), Body: m.expr(m.below(5))}
		}),
	}
}

// sizedExpr is an expression of that Size, at most 3,783.
func sizedExpr(n int) api.Expr {
	switch n {
	case 1:
		return vr("x")
	case 2:
		return fn("x", vr("x"))
	}
	var l []api.Expr
	for left := n - 1; left > 0; {
		size := min(left, 62)
		if left == 62 && len(l) == 0 || n <= 62 {
			size = 1
		}
		l = append(l, sizedExpr(size))
		left -= size
	}
	return app(l...)
}

// sized is a program of that Size, of definitions alone.
func sized(n int) (p api.Program) {
	for n > 0 {
		size := min(n, 3000)
		p.Defs = append(p.Defs, def("f", "", sizedExpr(size)))
		n -= size
	}
	return p
}

// lettered is a program whose Text has n bytes, 56 at least and MaxText + 100 at most, many of them spaces between two brackets.
func lettered(n int) (p api.Program) {
	z := vr(strings.Repeat("z", 15))
	pairs := func(k int) api.Expr { return app(append([]api.Expr{vr("x")}, many(k, app(z, z))...)...) }
	for n > 1780 {
		p.Defs = append(p.Defs, def("f", "", pairs(50)))
		n -= 12 + 34*50
	}
	k := (n - 22) / 34
	n -= 12 + 34*k
	p.Defs = append(p.Defs, def("f", "", pairs(k)), def("f", "", vr(strings.Repeat("x", n-9))))
	return p
}

// show is the beginning of x as text.
func show(x any) string {
	s := fmt.Sprint(x)
	return s[:min(len(s), 300)]
}
