package syn

import (
	"gristmill/api"
	"gristmill/flo"
	"gristmill/lex"
	"gristmill/num"
	"gristmill/tree"
)

// Valid is the first error of a program; nil, if Text writes it so that Parse reads it.
func Valid(p api.Program) error {
	if len(p.Datas) > api.MaxDefs || len(p.Defs) > api.MaxDefs || isTooLarge(p) {
		return api.ErrMany
	}
	for i, d := range p.Datas {
		if err := checkData(d); err != nil {
			return &api.At{Pos: i, Err: err}
		}
	}
	for i, d := range p.Defs {
		if err := checkDef(d); err != nil {
			return &api.At{Pos: len(p.Datas) + i, Err: err}
		}
	}
	if len(Text(p)) > api.MaxText {
		return api.ErrMany
	}
	return nil
}

// isTooLarge counts no further than it has to: a program that has one part at many places may be very large.
func isTooLarge(p api.Program) bool {
	n := 0
	return !visit(p, func() bool {
		n++
		return n <= api.MaxSize
	})
}

func checkData(d api.Data) error {
	if !lex.Upper(d.Name) || !areNames(d.Params) {
		return api.ErrName
	}
	if len(d.Params) > api.MaxList || len(d.Cons) > api.MaxCons {
		return api.ErrMany
	}
	for _, c := range d.Cons {
		if err := checkCons(c); err != nil {
			return err
		}
	}
	return checkDeep(nodeOfData(d))
}

// checkDeep is the error of a data or a definition whose brackets tree.Parse would not take.
func checkDeep(n tree.Node) error {
	if tree.Deep(n) > api.MaxDeep {
		return api.ErrDeep
	}
	return nil
}

func checkCons(c api.Cons) error {
	if !lex.Upper(c.Name) {
		return api.ErrName
	}
	if len(c.Args) > api.MaxList {
		return api.ErrMany
	}
	return checkTypes(c.Args)
}

// checkTypes is the first error of the types, each ahead of its Args.
func checkTypes(l []api.Type) error {
	for _, t := range l {
		if err := checkType(t); err != nil {
			return err
		}
		if err := checkTypes(t.Args); err != nil {
			return err
		}
	}
	return nil
}

// checkType is the error of a type without that of its Args.
func checkType(t api.Type) error {
	switch {
	case isArrow(t.Name) && len(t.Args) != 2, lex.Name(t.Name) && len(t.Args) > 0:
		return api.ErrForm
	case !isArrow(t.Name) && !isTypeName(t.Name):
		return api.ErrName
	case len(t.Args) > api.MaxList:
		return api.ErrMany
	}
	return nil
}

func checkDef(d api.Def) error {
	if !lex.Name(d.Name) || !areNames(d.Params) {
		return api.ErrName
	}
	if len(d.Params) > api.MaxList {
		return api.ErrMany
	}
	if err := checkExpr(d.Body); err != nil {
		return err
	}
	return checkDeep(nodeOfDef(d))
}

// checkExpr is the first error of the expression and its parts, it ahead of them.
func checkExpr(e api.Expr) error {
	switch {
	case !isForm(e):
		return api.ErrForm
	case !isNamed(e):
		return api.ErrName
	case isLong(e):
		return api.ErrMany
	}
	for _, part := range e.L {
		if err := checkExpr(part); err != nil {
			return err
		}
	}
	for _, a := range e.Alts {
		if err := checkExpr(a.E); err != nil {
			return err
		}
	}
	return nil
}

// isForm is whether the expression has the fields that the language gives it, as many, and no others.
func isForm(e api.Expr) bool {
	noName, noN := e.Name == "", e.N == 0
	names, parts, alts := len(e.Names), len(e.L), len(e.Alts)
	atom := names == 0 && parts == 0 && alts == 0
	switch e.Op {
	case api.Var, api.Con:
		return atom && noN
	case api.Int:
		return atom && noName
	case api.Flo:
		return atom && noName && flo.Canon(uint64(e.N)) == uint64(e.N)
	case api.Fail:
		return atom && noName && isFault(e.N)
	case api.App:
		return noName && noN && names == 0 && parts >= 2 && alts == 0
	case api.Fn:
		return noName && noN && names >= 1 && parts == 1 && alts == 0
	case api.Let:
		return noName && noN && names >= 1 && parts == names+1 && alts == 0
	case api.Case:
		return noName && noN && names == 0 && parts == 1 && alts >= 1 && areForms(e.Alts)
	case api.Prim:
		args, ok := num.Arity(e.Name)
		return ok && noN && names == 0 && parts == args && alts == 0
	}
	return false
}

// areForms is whether each alternative takes something, and has no field but those of what it takes.
func areForms(l []api.Alt) bool {
	for _, a := range l {
		noName, noN := a.Name == "" && len(a.Names) == 0, a.N == 0
		switch {
		case a.Take == api.TakeCon && noN:
		case a.Take == api.TakeInt && noName:
		case a.Take == api.TakeAny && noName && noN:
		default:
			return false
		}
	}
	return true
}

// isNamed is whether the names in the expression are such, those in its parts left out; it is one for which isForm holds.
func isNamed(e api.Expr) bool {
	if e.Op == api.Var && !lex.Name(e.Name) || e.Op == api.Con && !lex.Upper(e.Name) || !areNames(e.Names) {
		return false
	}
	for _, a := range e.Alts {
		if a.Take == api.TakeCon && !lex.Upper(a.Name) || !areNames(a.Names) {
			return false
		}
	}
	return true
}

// isLong is whether the expression has more of something than it may have; it is one for which isForm holds.
func isLong(e api.Expr) bool {
	if len(e.Names) > api.MaxList || len(e.Alts) > api.MaxList || e.Op == api.App && len(e.L)-1 > api.MaxList {
		return true
	}
	for _, a := range e.Alts {
		if len(a.Names) > api.MaxList {
			return true
		}
	}
	return false
}

func areNames(l []string) bool {
	for _, s := range l {
		if !lex.Name(s) {
			return false
		}
	}
	return true
}
