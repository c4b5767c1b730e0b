package syn

import (
	"math"

	"gristmill/api"
	"gristmill/flo"
	"gristmill/lex"
	"gristmill/num"
	"gristmill/tree"
)

func readExpr(n tree.Node) (api.Expr, error) {
	if isWord(n) {
		return readAtom(n)
	}
	switch head(n) {
	case "fn":
		return readFn(n)
	case "let":
		return readLet(n)
	case "case":
		return readCase(n)
	case "fail":
		return readFail(n)
	}
	if args, ok := num.Arity(head(n)); ok {
		return readPrim(n, args)
	}
	return readApp(n)
}

// readAtom is the expression that is a word.
func readAtom(n tree.Node) (api.Expr, error) {
	if i, err := num.Parse(n.Word); err == nil {
		return api.Expr{Op: api.Int, N: i}, nil
	}
	bits, err := flo.Parse(n.Word)
	switch {
	case err == nil:
		return api.Expr{Op: api.Flo, N: int64(bits)}, nil
	case beginsAsNumber(n.Word):
		return api.Expr{}, around(n, err)
	case lex.Name(n.Word):
		return api.Expr{Op: api.Var, Name: n.Word}, nil
	case lex.Upper(n.Word):
		return api.Expr{Op: api.Con, Name: n.Word}, nil
	}
	return api.Expr{}, around(n, api.ErrName)
}

// beginsAsNumber is whether s begins with a digit, or with a sign and a digit.
func beginsAsNumber(s string) bool {
	if s[0] == '-' {
		s = s[1:]
	}
	return s != "" && '0' <= s[0] && s[0] <= '9'
}

func readFn(n tree.Node) (api.Expr, error) {
	if err := checkList(n, 3, 3); err != nil {
		return api.Expr{}, err
	}
	if err := checkList(n.L[1], 1, maxParts); err != nil {
		return api.Expr{}, err
	}
	names, err := readAll(n.L[1].L, readName)
	if err != nil {
		return api.Expr{}, err
	}
	parts, err := readAll(n.L[2:], readExpr)
	if err != nil {
		return api.Expr{}, err
	}
	return api.Expr{Op: api.Fn, Names: names, L: parts}, nil
}

func readLet(n tree.Node) (api.Expr, error) {
	if err := checkList(n, 3, 3); err != nil {
		return api.Expr{}, err
	}
	if err := checkList(n.L[1], 1, maxParts); err != nil {
		return api.Expr{}, err
	}
	e := api.Expr{Op: api.Let}
	for _, b := range n.L[1].L {
		name, part, err := readBound(b)
		if err != nil {
			return api.Expr{}, err
		}
		e.Names = append(e.Names, name)
		e.L = append(e.L, part)
	}
	all, err := readExpr(n.L[2])
	if err != nil {
		return api.Expr{}, err
	}
	e.L = append(e.L, all)
	return e, nil
}

// readBound is a name of a Let, and what it is.
func readBound(n tree.Node) (string, api.Expr, error) {
	if err := checkList(n, 2, 2); err != nil {
		return "", api.Expr{}, err
	}
	name, err := readName(n.L[0])
	if err != nil {
		return "", api.Expr{}, err
	}
	part, err := readExpr(n.L[1])
	if err != nil {
		return "", api.Expr{}, err
	}
	return name, part, nil
}

func readCase(n tree.Node) (api.Expr, error) {
	if err := checkList(n, 3, maxParts); err != nil {
		return api.Expr{}, err
	}
	parts, err := readAll(n.L[1:2], readExpr)
	if err != nil {
		return api.Expr{}, err
	}
	alts, err := readAll(n.L[2:], readAlt)
	if err != nil {
		return api.Expr{}, err
	}
	return api.Expr{Op: api.Case, L: parts, Alts: alts}, nil
}

func readAlt(n tree.Node) (api.Alt, error) {
	if err := checkList(n, 2, 2); err != nil {
		return api.Alt{}, err
	}
	a, err := readPattern(n.L[0])
	if err != nil {
		return api.Alt{}, err
	}
	a.E, err = readExpr(n.L[1])
	if err != nil {
		return api.Alt{}, err
	}
	return a, nil
}

// readPattern is an alternative that has no E yet.
func readPattern(n tree.Node) (api.Alt, error) {
	if isWord(n) {
		return readPlainPattern(n)
	}
	if err := checkList(n, 2, maxParts); err != nil {
		return api.Alt{}, err
	}
	name, err := readUpper(n.L[0])
	if err != nil {
		return api.Alt{}, err
	}
	names, err := readAll(n.L[1:], readName)
	if err != nil {
		return api.Alt{}, err
	}
	return api.Alt{Take: api.TakeCon, Name: name, Names: names}, nil
}

// readPlainPattern is the pattern that is a word.
func readPlainPattern(n tree.Node) (api.Alt, error) {
	if n.Word == "_" {
		return api.Alt{Take: api.TakeAny}, nil
	}
	i, err := num.Parse(n.Word)
	if err == nil {
		return api.Alt{Take: api.TakeInt, N: i}, nil
	}
	if beginsAsNumber(n.Word) {
		return api.Alt{}, around(n, err)
	}
	name, err := readUpper(n)
	if err != nil {
		return api.Alt{}, err
	}
	return api.Alt{Take: api.TakeCon, Name: name}, nil
}

func readFail(n tree.Node) (api.Expr, error) {
	if err := checkList(n, 2, 2); err != nil {
		return api.Expr{}, err
	}
	n = n.L[1]
	if !isWord(n) {
		return api.Expr{}, noForm(n)
	}
	i, err := num.Parse(n.Word)
	if err != nil {
		return api.Expr{}, around(n, err)
	}
	if !isFault(i) {
		return api.Expr{}, around(n, api.ErrNumber)
	}
	return api.Expr{Op: api.Fail, N: i}, nil
}

// isFault is whether a program may name the fault n.
func isFault(n int64) bool { return 0 <= n && n <= math.MaxInt32 }

func readPrim(n tree.Node, args int) (api.Expr, error) {
	if err := checkList(n, 1+args, 1+args); err != nil {
		return api.Expr{}, err
	}
	parts, err := readAll(n.L[1:], readExpr)
	if err != nil {
		return api.Expr{}, err
	}
	return api.Expr{Op: api.Prim, Name: n.L[0].Word, L: parts}, nil
}

func readApp(n tree.Node) (api.Expr, error) {
	if err := checkList(n, 2, maxParts); err != nil {
		return api.Expr{}, err
	}
	parts, err := readAll(n.L, readExpr)
	if err != nil {
		return api.Expr{}, err
	}
	return api.Expr{Op: api.App, L: parts}, nil
}
