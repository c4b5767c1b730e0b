package grin_test

import (
	"fmt"
	"math/rand/v2"
	"slices"
	"strings"
	"testing"

	"gristmill/api"
	"gristmill/grin"
	"gristmill/num"
	"gristmill/steps"
	"gristmill/tag"
)

// spot is where a step stands, or, if it is none, a branch, or a list without steps.
type spot struct {
	list   string // the name of the list in which it stands: that of the list around it, and more
	last   bool
	step   *api.Step
	branch *api.Branch
}

// spots is all of the steps and branches, as they stand.
func spots(list string, l []api.Step) (all []spot) {
	if len(l) == 0 {
		return []spot{{}}
	}
	for k := range l {
		all = append(all, spot{list: list, last: k+1 == len(l), step: &l[k]})
		for j := range l[k].Alts {
			b := &l[k].Alts[j]
			all = append(all, spot{branch: b})
			all = append(all, spots(fmt.Sprint(list, k, ".", j, "/"), b.Steps)...)
		}
	}
	return all
}

// model is Valid told another way: of each step all that it must be, asked of all that stands ahead of it.
type model struct {
	p      grin.Prog
	params []string
	ahead  []spot
}

func (m model) valid() (int, error) {
	for i, f := range m.p.Funcs {
		if f.Name == "" {
			return i, api.ErrName
		}
		for _, g := range m.p.Funcs[:i] {
			if g.Name == f.Name {
				return i, api.ErrTwice
			}
		}
		for k, name := range f.Params {
			if name == "" || slices.Contains(f.Params[k+1:], name) {
				return i, api.ErrTwice
			}
		}
		m.params, m.ahead = f.Params, nil
		for _, s := range spots("/", f.Steps) {
			if err := m.errorOf(s); err != nil {
				return i, err
			}
			m.ahead = append(m.ahead, s)
		}
	}
	if !slices.ContainsFunc(m.p.Funcs, func(f api.Func) bool { return f.Name == "main" && len(f.Params) == 0 }) {
		return alone, api.ErrMain
	}
	return alone, nil
}

func (m model) errorOf(at spot) error {
	if b := at.branch; b != nil {
		if b.Take == api.TakeInt || b.Take == api.TakeAny || b.Take == api.TakeCon && tag.Valid(b.Tag) {
			return nil
		}
		return api.ErrTag
	}
	s := at.step
	if s == nil || s.Op < 1 || s.Op > 12 {
		return api.ErrShape
	}
	isEnd := s.Op == api.DoCase || s.Op == api.DoFail || s.Op == api.DoRet
	if isEnd != at.last || s.Op != api.DoCase && len(s.Alts) > 0 {
		return api.ErrShape
	}
	if !slices.Contains(m.counts(s), len(s.Vals)) {
		return api.ErrArity
	}
	for _, v := range s.Vals {
		bare := s.Op == api.DoPrim || s.Op == api.DoCase || s.Op == api.DoNode && (s.Tag.Kind == api.TagInt || s.Tag.Kind == api.TagFlo)
		if v.Kind == api.ValVar && !m.sees(v.Name, at.list) || v.Kind != api.ValVar && (!bare || v.Kind != api.ValInt && v.Kind != api.ValFlo) {
			return api.ErrBound
		}
	}
	if has := !isEnd && s.Op != api.DoUpdate; has != (s.To != "") || has && m.sees(s.To, "") {
		return api.ErrBound
	}
	switch s.Op {
	case api.DoNode:
		return m.errorOfNode(s)
	case api.DoCall:
		if f := m.function(s.Name); f == nil {
			return api.ErrNone
		} else if len(f.Params) != len(s.Vals) {
			return api.ErrArity
		}
	case api.DoFail, api.DoField:
		if s.N < 0 {
			return api.ErrShape
		}
	case api.DoCase:
		if len(s.Alts) < 1 || len(s.Alts) > 60 {
			return api.ErrMany
		}
	}
	return nil
}

// counts is how many values the step may have.
func (m model) counts(s *api.Step) (l []int) {
	for n := range 100 {
		prim, ok := num.Arity(s.Name)
		switch s.Op {
		case api.DoFetch, api.DoEval, api.DoOpen, api.DoField, api.DoCase, api.DoRet:
			ok = n == 1
		case api.DoUpdate:
			ok = n == 2
		case api.DoApply:
			ok = n > 1
		case api.DoFail:
			ok = n == 0
		case api.DoPrim:
			ok = ok && n == prim && s.Name != "seq"
		default:
			ok = true
		}
		if ok {
			l = append(l, n)
		}
	}
	return l
}

// sees is whether the name is bound ahead in that list, or in one around it; in any list, if none is named.
func (m model) sees(name, list string) bool {
	return slices.Contains(m.params, name) || slices.ContainsFunc(m.ahead, func(s spot) bool {
		return s.step != nil && s.step.To == name && name != "" && (list == "" || strings.HasPrefix(list, s.list))
	})
}

func (m model) function(name string) *api.Func {
	for i := range m.p.Funcs {
		if m.p.Funcs[i].Name == name {
			return &m.p.Funcs[i]
		}
	}
	return nil
}

func (m model) errorOfNode(s *api.Step) error {
	if !tag.Valid(s.Tag) {
		return api.ErrTag
	}
	fields := map[int]int{api.TagCon: s.Tag.N, api.TagFun: s.Tag.N, api.TagApp: 1 + s.Tag.N, api.TagInt: 1, api.TagFlo: 1}
	if s.Tag.Kind == api.TagFun || s.Tag.Kind == api.TagPap {
		f := m.function(s.Tag.Name)
		if f == nil {
			return api.ErrNone
		}
		lacks := len(f.Params) - s.Tag.N
		if s.Tag.Kind == api.TagFun && lacks != 0 || lacks < 0 {
			return api.ErrArity
		}
		fields[api.TagPap] = lacks
	}
	if len(s.Vals) != fields[s.Tag.Kind] {
		return api.ErrArity
	}
	return nil
}

// tally counts the errors that were told.
type tally map[error]int

// hold holds Valid against the model.
func (n tally) hold(t *testing.T, p grin.Prog) {
	t.Helper()
	place, err := model{p: p}.valid()
	n[err]++
	wantError(t, place, err, p)
}

func (n tally) wantAtLeast(t *testing.T, least int, l ...error) {
	t.Helper()
	for _, err := range l {
		if n[err] < least {
			t.Errorf("%d programs with %v", n[err], err)
		}
	}
}

// changer alters programs by chance.
type changer struct{ *rand.Rand }

func (c changer) name() string {
	return []string{"", "main", "f0", "f1", "f2", "a", "b", "v0", "v1", "v2", "v3", "+", "float", "seq", "f+", "C", "q"}[c.IntN(17)]
}

func (c changer) tag() api.Tag {
	l := append(steps.Trees(), api.Tag{}, con("S", 2), con("s", 1), fun("f0", 0), fun("f1", 1), fun("f1", 0), fun("q", 1), pap("f1", 1), pap("f2", 2), pap("f3", 61), app(1), app(0), app(2), api.Tag{Kind: api.TagInt}, api.Tag{Kind: api.TagFlo}, api.Tag{Kind: api.TagFlo, N: 1})
	return l[c.IntN(len(l))]
}

func (c changer) val() api.Val { return api.Val{Kind: c.IntN(5), Name: c.name(), N: 1} }

// alter makes one alteration, anywhere.
func (c changer) alter(p *grin.Prog) {
	f := &p.Funcs[c.IntN(len(p.Funcs))]
	if c.IntN(12) == 0 {
		switch c.IntN(4) {
		case 0:
			f.Name = c.name()
		case 1:
			f.Params = append(f.Params, c.name())
		case 2:
			f.Params = f.Params[:len(f.Params)/2]
		case 3:
			f.Steps = f.Steps[c.IntN(2):]
		}
		return
	}
	all := spots("/", f.Steps)
	at := all[c.IntN(len(all))]
	switch {
	case at.branch != nil && c.IntN(2) == 0:
		at.branch.Take = c.IntN(5)
	case at.branch != nil && c.IntN(2) == 0:
		at.branch.Tag = c.tag()
	case at.branch != nil:
		at.branch.Steps = c.alterList(at.branch.Steps)
	case at.step != nil:
		c.alterStep(at.step)
	}
}

// alterList takes a step away, or has one twice.
func (c changer) alterList(l []api.Step) []api.Step {
	if len(l) == 0 {
		return []api.Step{fail}
	}
	k := c.IntN(len(l))
	return slices.Concat(l[:k], l[k+1-c.IntN(2)*min(k, 1):])
}

func (c changer) alterStep(s *api.Step) {
	switch c.IntN(10) {
	case 0:
		s.Op = c.IntN(14)
	case 1, 2:
		s.To = c.name()
	case 3:
		s.Name = c.name()
	case 4:
		s.Tag = c.tag()
	case 5:
		s.Vals = append(s.Vals, c.val())
	case 6:
		s.Vals = s.Vals[:len(s.Vals)/2]
	case 7:
		if len(s.Vals) > 0 {
			s.Vals[c.IntN(len(s.Vals))] = c.val()
		}
	case 8:
		s.N = int64(c.IntN(3) - 1)
	case 9:
		s.Alts = [][]api.Branch{nil, {other(fail)}, slices.Repeat(s.Alts, 2), slices.Repeat([]api.Branch{other(fail)}, 61)}[c.IntN(4)]
	}
}

var each = []error{api.ErrName, api.ErrTwice, api.ErrArity, api.ErrBound, api.ErrNone, api.ErrShape, api.ErrTag, api.ErrMany, api.ErrMain}

func TestProgramsByChance(t *testing.T) {
	c := changer{rand.New(rand.NewPCG(15, 2))}
	right := tally{}
	wrong := tally{}
	for _, often := range []int{0, 10} {
		w := steps.Writer{Chance: c, Wrong: often}
		for range 1000 {
			p := of(w.Program()...)
			right.hold(t, p)
			for range 3 {
				q := grin.Clone(p)
				for range 3 {
					c.alter(&q)
					wrong.hold(t, q)
				}
			}
		}
	}
	if len(right) != 1 {
		t.Error(right)
	}
	wrong.wantAtLeast(t, 15, each...)
	if wrong[nil] < 1000 {
		t.Error(wrong)
	}
}

// lists is all lists of one to most of the steps.
func lists(most int, from ...api.Step) (l [][]api.Step) {
	level := [][]api.Step{nil}
	for range most {
		var next [][]api.Step
		for _, ahead := range level {
			for _, s := range from {
				next = append(next, append(slices.Clip(ahead), s))
			}
		}
		l = append(l, next...)
		level = next
	}
	return l
}

// Every function of a few steps.
func TestAllSmallFunctions(t *testing.T) {
	x := v("x")[0]
	small := []api.Step{whole("x"), to("y", do(api.DoEval, x)), do(api.DoUpdate, v("x", "y")...), ret("x"), ret("y"), fail}
	from := append(small, to("x", call("f", x)), prim("+", append(i(1), x)...), api.Step{}, choose(x), node("y", con("C", 1), x), node("y", fun("f", 1)), node("y", pap("f", 1)), do(api.DoField, x), node("y", app(1), v("x", "x")...))
	var few []api.Branch
	for _, l := range lists(2, small...) {
		few = append(few, other(l...))
	}
	few = append(few, other())
	n := tally{}
	for _, l := range lists(4, from...) {
		n.hold(t, of(fn("f", []string{"p"}, ret("p")), fn("main", nil, l...)))
	}
	for _, a := range few {
		for _, b := range few {
			for _, ahead := range [][]api.Step{{whole("x")}, {whole("x"), whole("y")}, {whole("z")}} {
				n.hold(t, main(append(slices.Clip(ahead), choose(v("x")[0], a, b))...))
				n.hold(t, main(append(slices.Clip(ahead), choose(v("x")[0], other(whole("y"), choose(v("y")[0], a)), b))...))
			}
		}
	}
	n.wantAtLeast(t, 100, nil, api.ErrShape, api.ErrArity, api.ErrBound)
}
