package run_test

import (
	"maps"
	"slices"

	"gristmill/api"
	"gristmill/flo"
	"gristmill/grin"
	"gristmill/num"
	"gristmill/run"
)

// model is a run told another way: places are numbers, variables are looked up as they stand, and what comes behind a call is handed to it, so that Go's calls are not within one another as the program's are.
type model struct {
	funcs  map[string]api.Func
	nodes  []modelNode
	depth  int
	fuel   int64
	steps  int64
	open   int
	most   int // that were open at once
	looked int
	out    run.Out
	next   func() // what is to be done; nil: the run has ended
}

type modelNode struct {
	tag   api.Tag
	vals  []modelVal
	under bool
}

// modelVal is a place (Kind 0), or a bare number (ValInt, ValFlo).
type modelVal struct {
	kind int
	n    int64
}

func newModel(p grin.Prog, depth int, fuel int64) *model {
	m := &model{funcs: map[string]api.Func{}, depth: max(0, min(depth, 40)), fuel: max(0, min(fuel, 1<<24))}
	for _, f := range p.Funcs {
		m.funcs[f.Name] = f
	}
	return m
}

func (m *model) run() run.Out {
	m.call("main", nil, func(v modelVal) {
		m.place(v, func(at int64) {
			m.evaluate(at, func(at int64) {
				m.look(at, m.depth, func(o api.Obs) { m.end(run.Out{How: api.Ended, Obs: o, Steps: m.steps}) })
			})
		})
	})
	for m.next != nil {
		next := m.next
		m.next = nil
		next()
	}
	return m.out
}

// end ends the run: nothing is next any more.
func (m *model) end(out run.Out) { m.out = out }

func (m *model) bad() { m.end(run.Out{How: api.Bad, Steps: m.steps}) }

func (m *model) outOfFuel() { m.end(run.Out{How: api.OutOfFuel, Steps: m.fuel}) }

func (m *model) fault(n int64) {
	m.end(run.Out{How: api.Ended, Obs: api.Obs{Kind: api.SeenFault, N: n}, Steps: m.steps})
}

// begin counts what is open until then is called; ahead of it Go's calls end.
func (m *model) begin(do func()) {
	if m.open == 1<<16 {
		m.outOfFuel()
		return
	}
	m.open++
	m.most = max(m.most, m.open)
	m.next = do
}

func (m *model) place(v modelVal, then func(int64)) {
	if v.kind != 0 {
		m.bad()
		return
	}
	then(v.n)
}

func (m *model) waits(at int64) bool {
	kind := m.nodes[at].tag.Kind
	return kind == api.TagFun || kind == api.TagApp
}

func (m *model) bare(at int64) bool {
	kind := m.nodes[at].tag.Kind
	return kind == api.TagInt || kind == api.TagFlo
}

func (m *model) call(name string, args []modelVal, then func(modelVal)) {
	m.begin(func() {
		f := m.funcs[name]
		vars := map[string]modelVal{}
		for k, param := range f.Params {
			vars[param] = args[k]
		}
		m.do(f.Steps, vars, func(v modelVal) {
			m.open--
			then(v)
		})
	})
}

// returned is what the function returns, evaluated.
func (m *model) returned(name string, args []modelVal, then func(int64)) {
	m.call(name, args, func(v modelVal) { m.place(v, func(at int64) { m.evaluate(at, then) }) })
}

func (m *model) evaluate(at int64, then func(int64)) {
	m.begin(func() {
		end := func() {
			m.open--
			then(at)
		}
		node := m.nodes[at]
		become := func(is int64) {
			m.nodes[at] = m.nodes[is]
			m.nodes[at].under = false
			end()
		}
		switch {
		case !m.waits(at):
			end()
		case node.under:
			m.outOfFuel()
		case node.tag.Kind == api.TagFun:
			m.nodes[at].under = true
			m.returned(node.tag.Name, node.vals, become)
		default:
			m.nodes[at].under = true
			m.evaluate(node.vals[0].n, func(f int64) { m.apply(f, node.vals[1:], become) })
		}
	})
}

func (m *model) apply(f int64, args []modelVal, then func(int64)) {
	node := m.nodes[f]
	if node.tag.Kind != api.TagPap {
		m.bad()
		return
	}
	m.begin(func() {
		end := func(at int64) {
			m.open--
			then(at)
		}
		lacks := node.tag.N - len(args)
		all := slices.Concat(node.vals, args)
		if lacks > 0 {
			t := node.tag
			t.N = lacks
			end(m.make(t, all))
			return
		}
		n := len(all) + lacks
		m.returned(node.tag.Name, all[:n], func(at int64) {
			if lacks == 0 {
				end(at)
				return
			}
			m.apply(at, all[n:], end)
		})
	})
}

func (m *model) make(t api.Tag, vals []modelVal) int64 {
	m.nodes = append(m.nodes, modelNode{tag: t, vals: vals})
	return int64(len(m.nodes) - 1)
}

func (m *model) do(l []api.Step, vars map[string]modelVal, then func(modelVal)) {
	m.next = func() {
		if m.steps == m.fuel {
			m.outOfFuel()
			return
		}
		m.steps++
		var vals []modelVal
		for _, x := range l[0].Vals {
			v := modelVal{x.Kind, x.N}
			if x.Kind == api.ValVar {
				v = vars[x.Name]
			}
			vals = append(vals, v)
		}
		s := l[0]
		switch s.Op {
		case api.DoRet:
			then(vals[0])
		case api.DoFail:
			if s.N == 1<<31 {
				s.N = -1
			}
			m.fault(s.N)
		case api.DoCase:
			for _, b := range s.Alts {
				if m.takes(b, vals[0]) {
					m.do(b.Steps, maps.Clone(vars), then)
					return
				}
			}
			m.bad()
		default:
			m.step(s, vals, func(v modelVal) {
				if s.To != "" {
					vars[s.To] = v
				}
				m.do(l[1:], vars, then)
			})
		}
	}
}

func (m *model) takes(b api.Branch, v modelVal) bool {
	switch b.Take {
	case api.TakeCon:
		return v.kind == 0 && m.nodes[v.n].tag == b.Tag
	case api.TakeInt:
		return v.kind == api.ValInt && v.n == b.N
	}
	return true
}

// step does one that does not end.
func (m *model) step(s api.Step, vals []modelVal, then func(modelVal)) {
	thenPlace := func(at int64) { then(modelVal{n: at}) }
	switch s.Op {
	case api.DoCall:
		m.call(s.Name, vals, then)
		return
	case api.DoPrim:
		m.prim(s.Name, vals, then)
		return
	case api.DoNode:
		if s.Tag.Kind == api.TagInt && vals[0].kind == api.ValInt || s.Tag.Kind == api.TagFlo && vals[0].kind == api.ValFlo {
			thenPlace(m.make(s.Tag, vals))
			return
		}
	}
	if slices.ContainsFunc(vals, func(v modelVal) bool { return v.kind != 0 }) {
		m.bad()
		return
	}
	var at int64
	if len(vals) > 0 {
		at = vals[0].n
	}
	switch {
	case s.Op == api.DoNode && s.Tag.Kind != api.TagInt && s.Tag.Kind != api.TagFlo:
		thenPlace(m.make(s.Tag, vals))
	case s.Op == api.DoFetch && !m.waits(at):
		thenPlace(at)
	case s.Op == api.DoUpdate:
		m.nodes[at] = m.nodes[vals[1].n]
		m.nodes[at].under = false
		then(modelVal{})
	case s.Op == api.DoEval:
		m.evaluate(at, thenPlace)
	case s.Op == api.DoApply:
		m.apply(at, vals[1:], thenPlace)
	case s.Op == api.DoOpen && m.bare(at):
		then(m.nodes[at].vals[0])
	case s.Op == api.DoField && s.N < int64(len(m.nodes[at].vals)):
		then(m.nodes[at].vals[s.N])
	default:
		m.bad()
	}
}

func (m *model) prim(name string, vals []modelVal, then func(modelVal)) {
	sorts := ""
	for _, v := range vals {
		sorts += map[int]string{0: "p", api.ValInt: "i", api.ValFlo: "f"}[v.kind]
	}
	a, b := vals[0].n, vals[len(vals)-1].n
	whole := func(n int64) { then(modelVal{api.ValInt, n}) }
	switch {
	case name == "float" && sorts == "i":
		then(modelVal{api.ValFlo, int64(flo.OfInt(a))})
		return
	case name == "whole" && sorts == "f":
		if n, ok := flo.ToInt(uint64(a)); ok {
			whole(n)
		} else {
			m.fault(-3)
		}
		return
	case sorts == "ii":
		n, fault, ok := num.Do(name, a, b)
		if fault != 0 {
			m.fault(int64(fault))
			return
		} else if ok {
			whole(n)
			return
		}
	case sorts == "ff":
		if c, ok := flo.Do(name, uint64(a), uint64(b)); ok {
			then(modelVal{api.ValFlo, int64(c)})
			return
		}
		if is, ok := flo.Is(name, uint64(a), uint64(b)); ok {
			whole(map[bool]int64{true: 1}[is])
			return
		}
	}
	m.bad()
}

// look is what the place, which is evaluated, is observed as.
func (m *model) look(at int64, depth int, then func(api.Obs)) {
	m.looked++
	node := m.nodes[at]
	switch {
	case m.looked > 20000:
		m.outOfFuel()
	case node.tag.Kind == api.TagInt:
		then(api.Obs{Kind: api.SeenInt, N: node.vals[0].n})
	case node.tag.Kind == api.TagFlo:
		then(api.Obs{Kind: api.SeenFlo, N: int64(flo.Canon(uint64(node.vals[0].n)))})
	case node.tag.Kind == api.TagPap:
		then(api.Obs{Kind: api.SeenFn})
	case depth == 0:
		then(api.Obs{Kind: api.SeenCut})
	default:
		m.lookAll(node, nil, depth-1, then)
	}
}

func (m *model) lookAll(node modelNode, l []api.Obs, depth int, then func(api.Obs)) {
	if len(l) == len(node.vals) {
		then(api.Obs{Kind: api.SeenTree, Name: node.tag.Name, L: l})
		return
	}
	m.evaluate(node.vals[len(l)].n, func(at int64) {
		m.look(at, depth, func(o api.Obs) { m.lookAll(node, append(l, o), depth, then) })
	})
}
