package grin

import (
	"slices"

	"gristmill/api"
	"gristmill/num"
	"gristmill/tag"
)

// Whether a variable of the function that is looked at is in sight: a branch doesn't see those of the branches ahead of it.
const (
	inSight    = 1
	outOfSight = 2
)

// checker is what may be named at a place of a program.
type checker struct {
	funcs map[string]int // how many parameters the function of that name has, the first of them
	vars  map[string]int // those of the function that are bound ahead of the place
}

// Valid is the first error of a program; nil, if it may be.
func Valid(p Prog) error {
	if len(p.Funcs) > api.MaxCode || !isWithin(api.MaxCode, p.Funcs...) {
		return api.ErrMany
	}
	c := checker{funcs: map[string]int{}}
	for _, f := range slices.Backward(p.Funcs) {
		c.funcs[f.Name] = len(f.Params)
	}
	seen := map[string]struct{}{}
	for i, f := range p.Funcs {
		if err := c.checkFunc(f, seen); err != nil {
			return &api.At{Pos: i, Err: err}
		}
		seen[f.Name] = struct{}{}
	}
	if params, ok := c.funcs["main"]; !ok || params > 0 {
		return api.ErrMain
	}
	return nil
}

// checkFunc is the first error of the function; seen has the names of those ahead of it.
func (c checker) checkFunc(f api.Func, seen map[string]struct{}) error {
	if f.Name == "" {
		return api.ErrName
	}
	if _, again := seen[f.Name]; again {
		return api.ErrTwice
	}
	c.vars = map[string]int{}
	for _, name := range f.Params {
		if name == "" || c.vars[name] != 0 {
			return api.ErrTwice
		}
		c.vars[name] = inSight
	}
	return c.checkSteps(f.Steps)
}

// checkSteps is the first error of the steps of a function, or of a branch.
func (c checker) checkSteps(steps []api.Step) error {
	if len(steps) == 0 {
		return api.ErrShape
	}
	for i := range steps {
		if err := c.checkStep(&steps[i], i == len(steps)-1); err != nil {
			return err
		}
	}
	return nil
}

// checkStep is the first error of a step, and of its branches. What its answer goes to is in sight behind it.
func (c checker) checkStep(s *api.Step, last bool) error {
	switch {
	case !hasOp(s) || ends(s) != last || len(s.Alts) > 0 && s.Op != api.DoCase:
		return api.ErrShape
	case !hasVals(s):
		return api.ErrArity
	case !c.isBound(s):
		return api.ErrBound
	}
	if s.To != "" {
		c.vars[s.To] = inSight
	}
	switch s.Op {
	case api.DoNode:
		return c.checkNode(s)
	case api.DoCall:
		return c.checkCall(s)
	case api.DoCase:
		return c.checkCase(s)
	case api.DoFail, api.DoField:
		if s.N < 0 {
			return api.ErrShape
		}
	}
	return nil
}

func hasOp(s *api.Step) bool { return s.Op >= api.DoNode && s.Op <= api.DoField }

// ends is whether no step is done behind it.
func ends(s *api.Step) bool {
	return s.Op == api.DoCase || s.Op == api.DoFail || s.Op == api.DoRet
}

// hasVals is whether the step has as many values as its Op takes. How many a DoNode, or a DoCall, takes hangs on what it names.
func hasVals(s *api.Step) bool {
	n := len(s.Vals)
	switch s.Op {
	case api.DoUpdate:
		return n == 2
	case api.DoApply:
		return n >= 2
	case api.DoPrim:
		takes, ok := num.Arity(s.Name)
		return ok && s.Name != "seq" && n == takes
	case api.DoFail:
		return n == 0
	case api.DoNode, api.DoCall:
		return true
	}
	return n == 1
}

// isBound is whether the step's values may stand there, and its answer goes to a new variable, if it has one.
func (c checker) isBound(s *api.Step) bool {
	for _, v := range s.Vals {
		if !c.isVal(v, s) {
			return false
		}
	}
	if ends(s) || s.Op == api.DoUpdate {
		return s.To == ""
	}
	return s.To != "" && c.vars[s.To] == 0
}

// isVal is whether the value may stand in the step.
func (c checker) isVal(v api.Val, s *api.Step) bool {
	switch v.Kind {
	case api.ValVar:
		return c.vars[v.Name] == inSight
	case api.ValInt, api.ValFlo:
		return s.Op == api.DoPrim || s.Op == api.DoCase || s.Op == api.DoNode && tag.Bare(s.Tag)
	}
	return false
}

// checkNode is the error of the node that the step makes.
func (c checker) checkNode(s *api.Step) error {
	if !tag.Valid(s.Tag) {
		return api.ErrTag
	}
	fields, err := c.fieldsOf(s.Tag)
	if err == nil && len(s.Vals) != fields {
		err = api.ErrArity
	}
	return err
}

// fieldsOf is how many fields a node of that tag has.
func (c checker) fieldsOf(t api.Tag) (int, error) {
	switch t.Kind {
	case api.TagCon:
		return t.N, nil
	case api.TagApp:
		// What is applied is one more.
		return t.N + 1, nil
	case api.TagInt, api.TagFlo:
		return 1, nil
	}
	params, ok := c.funcs[t.Name]
	switch {
	case !ok:
		return 0, api.ErrNone
	case t.Kind == api.TagFun && t.N == params:
		return params, nil
	case t.Kind == api.TagPap && t.N <= params:
		return params - t.N, nil
	}
	return 0, api.ErrArity
}

// checkCall is the error of the function that the step calls.
func (c checker) checkCall(s *api.Step) error {
	params, ok := c.funcs[s.Name]
	switch {
	case !ok:
		return api.ErrNone
	case len(s.Vals) != params:
		return api.ErrArity
	}
	return nil
}

// checkCase is the first error of the step's branches.
func (c checker) checkCase(s *api.Step) error {
	if len(s.Alts) == 0 || len(s.Alts) > api.MaxList {
		return api.ErrMany
	}
	for i := range s.Alts {
		b := &s.Alts[i]
		if !mayTake(b) {
			return api.ErrTag
		}
		if err := c.checkSteps(b.Steps); err != nil {
			return err
		}
		c.leave(b.Steps)
	}
	return nil
}

// mayTake is whether the branch says what it takes.
func mayTake(b *api.Branch) bool {
	switch b.Take {
	case api.TakeCon:
		return tag.Valid(b.Tag)
	case api.TakeInt, api.TakeAny:
		return true
	}
	return false
}

// leave puts what the steps have bound out of sight; what their branches have bound is so already.
func (c checker) leave(steps []api.Step) {
	for i := range steps {
		if to := steps[i].To; to != "" {
			c.vars[to] = outOfSight
		}
	}
}
