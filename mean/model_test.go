package mean_test

import (
	"math"
	"slices"
	"testing"

	"gristmill/api"
	"gristmill/obs"
	"gristmill/syn"
)

// model is a run told another way: names are looked up as they stand, and what comes behind an evaluation is handed to it, so that Go's calls are not within one another as the evaluations are.
type model struct {
	tops   map[string]api.Def
	cells  map[string]*modelCell // of definitions without parameters
	cons   map[string]int        // how many parts
	fuel   int64
	steps  int64
	open   int
	most   int // that were open at once
	looked int
	fault  *int64
	next   func() // what is to be done; nil: the run has stopped
}

// bindings is names and their cells, the innermost one first.
type bindings struct {
	name string
	cell *modelCell
	out  *bindings
}

func (b *bindings) find(name string) *modelCell {
	for ; b != nil; b = b.out {
		if b.name == name {
			return b.cell
		}
	}
	return nil
}

func (b *bindings) with(names []string, cells []*modelCell) *bindings {
	for i, name := range names {
		b = &bindings{name, cells[i], b}
	}
	return b
}

type modelCell struct {
	e     api.Expr
	in    *bindings
	state int // 0: it waits, 1: it is being evaluated, 2: it was
	is    modelValue
}

// modelValue is a number (its Op Int, Flo), a tree (Con), or a function (Fn), of a constructor or of what the body is.
type modelValue struct {
	op    int
	n     int64
	name  string
	names []string
	body  *api.Expr
	in    *bindings
	lacks int
	has   []*modelCell
}

func newModel(p api.Program, fuel int64) *model {
	m := &model{tops: map[string]api.Def{}, cells: map[string]*modelCell{}, cons: map[string]int{}, fuel: fuel}
	for _, d := range p.Datas {
		for _, c := range d.Cons {
			m.cons[c.Name] = len(c.Args)
		}
	}
	for _, d := range p.Defs {
		m.tops[d.Name] = d
		if len(d.Params) == 0 {
			m.cells[d.Name] = &modelCell{e: d.Body}
		}
	}
	return m
}

// run is what the cell is observed as.
func (m *model) run(c *modelCell, depth int) (a answer) {
	m.look(c, depth, func(o api.Obs) { a = answer{o, m.steps, true} })
	for m.next != nil && !a.is && m.fault == nil {
		next := m.next
		m.next = nil
		next()
	}
	switch {
	case m.fault != nil:
		return answer{api.Obs{Kind: api.SeenFault, N: *m.fault}, m.steps, true}
	case !a.is:
		return nothing(m.fuel)
	}
	return a
}

func (m *model) look(c *modelCell, depth int, then func(api.Obs)) {
	m.force(c, func(v modelValue) {
		m.looked++
		if m.looked > api.MaxSize {
			return
		}
		switch {
		case v.op == api.Int:
			then(api.Obs{Kind: api.SeenInt, N: v.n})
		case v.op == api.Flo:
			then(api.Obs{Kind: api.SeenFlo, N: v.n})
		case v.op == api.Fn:
			then(api.Obs{Kind: api.SeenFn})
		case depth == 0:
			then(api.Obs{Kind: api.SeenCut})
		default:
			m.lookAll(v, nil, depth-1, then)
		}
	})
}

func (m *model) lookAll(v modelValue, l []api.Obs, depth int, then func(api.Obs)) {
	if len(l) == len(v.has) {
		then(api.Obs{Kind: api.SeenTree, Name: v.name, L: l})
		return
	}
	m.look(v.has[len(l)], depth, func(o api.Obs) { m.lookAll(v, append(l, o), depth, then) })
}

func (m *model) force(c *modelCell, then func(modelValue)) {
	switch c.state {
	case 2:
		then(c.is)
	case 0:
		c.state = 1
		m.eval(c.e, c.in, func(v modelValue) {
			c.state, c.is = 2, v
			then(v)
		})
	}
}

// eval puts the evaluation ahead of all else that is to be done.
func (m *model) eval(e api.Expr, in *bindings, then func(modelValue)) {
	m.next = func() {
		if m.steps+1 > m.fuel || m.open+1 > api.MaxStack {
			return
		}
		m.steps++
		m.open++
		m.most = max(m.most, m.open)
		m.form(e, in, func(v modelValue) {
			m.open--
			then(v)
		})
	}
}

func (m *model) form(e api.Expr, in *bindings, then func(modelValue)) {
	switch e.Op {
	case api.Var:
		m.name(e.Name, in, then)
	case api.Int, api.Flo:
		then(modelValue{op: e.Op, n: e.N})
	case api.Con:
		then(saturated(modelValue{op: api.Fn, name: e.Name, lacks: m.cons[e.Name]}))
	case api.Fn:
		then(modelValue{op: api.Fn, names: e.Names, body: &e.L[0], in: in, lacks: len(e.Names)})
	case api.App:
		m.eval(e.L[0], in, func(v modelValue) { m.apply(v, cellsOf(e.L[1:], in), then) })
	case api.Let:
		cells := make([]*modelCell, len(e.Names))
		for i := range cells {
			cells[i] = &modelCell{e: e.L[i]}
		}
		in = in.with(e.Names, cells)
		for _, c := range cells {
			c.in = in
		}
		m.eval(e.L[len(cells)], in, then)
	case api.Case:
		m.eval(e.L[0], in, func(v modelValue) { m.choose(e.Alts, v, in, then) })
	case api.Prim:
		m.evalAll(e.L, in, nil, func(l []modelValue) { m.prim(e.Name, l, then) })
	case api.Fail:
		m.fault = &e.N
	}
}

func (m *model) name(name string, in *bindings, then func(modelValue)) {
	d := m.tops[name]
	switch c := in.find(name); {
	case c != nil:
		m.force(c, then)
	case len(d.Params) > 0:
		then(modelValue{op: api.Fn, names: d.Params, body: &d.Body, lacks: len(d.Params)})
	default:
		m.force(m.cells[name], then)
	}
}

func cellsOf(l []api.Expr, in *bindings) (cells []*modelCell) {
	for _, e := range l {
		c := &modelCell{e: e, in: in}
		if e.Op == api.Var && in.find(e.Name) != nil {
			c = in.find(e.Name)
		}
		cells = append(cells, c)
	}
	return cells
}

// saturated is the tree, if it is a constructor that lacks nothing.
func saturated(v modelValue) modelValue {
	if v.lacks == 0 && v.body == nil {
		v.op = api.Con
	}
	return v
}

// apply hands over one cell at a time.
func (m *model) apply(v modelValue, cells []*modelCell, then func(modelValue)) {
	if len(cells) == 0 {
		then(v)
		return
	}
	if v.op != api.Fn {
		return
	}
	v.has = append(slices.Clone(v.has), cells[0])
	v.lacks--
	if v.lacks > 0 || v.body == nil {
		m.apply(saturated(v), cells[1:], then)
		return
	}
	m.eval(*v.body, v.in.with(v.names, v.has), func(v modelValue) { m.apply(v, cells[1:], then) })
}

func (m *model) choose(alts []api.Alt, v modelValue, in *bindings, then func(modelValue)) {
	for _, a := range alts {
		switch {
		case a.Take == api.TakeAny, a.Take == api.TakeInt && v.op == api.Int && v.n == a.N:
			m.eval(a.E, in, then)
			return
		case a.Take == api.TakeCon && v.op == api.Con && v.name == a.Name:
			m.eval(a.E, in.with(a.Names, v.has), then)
			return
		}
	}
	m.fail(api.NoMatch)
}

func (m *model) fail(n int64) { m.fault = &n }

func (m *model) evalAll(l []api.Expr, in *bindings, has []modelValue, then func([]modelValue)) {
	if len(has) == len(l) {
		then(has)
		return
	}
	m.eval(l[len(has)], in, func(v modelValue) { m.evalAll(l, in, append(has, v), then) })
}

func (m *model) prim(name string, l []modelValue, then func(modelValue)) {
	whole := func(n int64) { then(modelValue{op: api.Int, n: n}) }
	is := func(b bool) { whole(map[bool]int64{true: 1}[b]) }
	float := func(x float64) {
		n := int64(math.Float64bits(x))
		if x != x {
			n = 0x7ff8 << 48
		}
		then(modelValue{op: api.Flo, n: n})
	}
	sorts := ""
	for _, v := range l {
		sorts += map[int]string{api.Int: "i", api.Flo: "f", api.Con: "c", api.Fn: "c"}[v.op]
	}
	a, b := l[0].n, l[len(l)-1].n
	x, y := math.Float64frombits(uint64(a)), math.Float64frombits(uint64(b))
	if name == "seq" {
		then(l[1])
		return
	}
	switch name + " " + sorts {
	case "+ ii":
		whole(a + b)
	case "- ii":
		whole(a - b)
	case "* ii":
		whole(a * b)
	case "div ii", "mod ii":
		switch {
		case b == 0:
			m.fail(api.NoDiv)
		case name == "div":
			whole(a / b)
		default:
			whole(a - a/b*b)
		}
	case "< ii":
		is(a < b)
	case "= ii":
		is(a == b)
	case "f+ ff":
		float(x + y)
	case "f- ff":
		float(x - y)
	case "f* ff":
		float(x * y)
	case "f/ ff":
		float(x / y)
	case "f< ff":
		is(x < y)
	case "f= ff":
		is(x == y)
	case "float i":
		float(float64(a))
	case "whole f":
		if x != x || x >= 1<<63 || x < -1<<63 {
			m.fail(api.NoInt)
			return
		}
		whole(int64(x))
	}
}

// tally counts what was held against the model.
type tally struct{ seen, deep, fault, nothing int }

// hold holds an answer against that of the model of a program, of main if e is nil.
func (n *tally) hold(t *testing.T, p api.Program, e *api.Expr, depth int, fuel int64) answer {
	t.Helper()
	got, s := run(p, depth, fuel), ""
	m := newModel(p, fuel)
	c := m.cells["main"]
	if e != nil {
		got, s = runExpr(p, *e, depth, fuel), syn.Text(api.Program{Defs: []api.Def{{Name: "e", Body: *e}}})
		c = &modelCell{e: *e}
	}
	want := m.run(c, depth)
	if !obs.Same(got.obs, want.obs) || got.steps != want.steps || got.is != want.is || got.is && !obs.Valid(got.obs) {
		t.Fatalf("%s%s at %d with %d: %q, %d, %v; want %q, %d, %v", syn.Text(p), s, depth, fuel, obs.Text(got.obs), got.steps, got.is, obs.Text(want.obs), want.steps, want.is)
	}
	switch {
	case !got.is:
		n.nothing++
	case got.obs.Kind == api.SeenFault:
		n.fault++
	case size(got.obs) > 3:
		n.deep++
	default:
		n.seen++
	}
	return got
}
