package syn

import (
	"errors"

	"gristmill/api"
	"gristmill/lex"
	"gristmill/tree"
)

// How many parts a list has at most, the word that it begins with among them. Some forms have fewer: of those Valid tells, without a place.
const (
	maxParts     = api.MaxList + 2
	maxDataParts = api.MaxCons + api.MaxList + 2
	maxDefParts  = api.MaxList + 3
)

// Parse is the program of a text.
func Parse(s string) (api.Program, error) {
	l, err := tree.Parse(s)
	if err != nil {
		return api.Program{}, err
	}
	var p api.Program
	for _, n := range l {
		if err := readInto(&p, n); err != nil {
			return api.Program{}, err
		}
	}
	if err := Valid(p); err != nil {
		return api.Program{}, withoutPlace(err)
	}
	return p, nil
}

// withoutPlace is the error alone: Valid's places are no places of a text.
func withoutPlace(err error) error {
	var at *api.At
	if errors.As(err, &at) {
		return at.Err
	}
	return err
}

// readInto puts the data or the definition of a node to the program.
func readInto(p *api.Program, n tree.Node) error {
	switch head(n) {
	case "data":
		d, err := readData(n)
		if err != nil {
			return err
		}
		p.Datas = append(p.Datas, d)
	case "def":
		d, err := readDef(n)
		if err != nil {
			return err
		}
		p.Defs = append(p.Defs, d)
	default:
		return noForm(n)
	}
	return nil
}

// around wraps an error with the place of the node that it is of.
func around(n tree.Node, err error) error { return &api.At{Pos: n.Pos, Err: err} }

// noForm is the error of a node that is not what has to stand there. That a list has too many parts is told first, whatever had to stand there.
func noForm(n tree.Node) error {
	if len(n.L) > maxParts {
		return around(n, api.ErrMany)
	}
	return around(n, api.ErrForm)
}

func isWord(n tree.Node) bool { return n.Word != "" }

// head is the word that a list begins with; empty, if there is none.
func head(n tree.Node) string {
	if len(n.L) == 0 {
		return ""
	}
	return n.L[0].Word
}

// checkList is the error of a node that has to be a list of at least least and at most most parts.
func checkList(n tree.Node, least, most int) error {
	if isWord(n) || len(n.L) < least || len(n.L) > most {
		return noForm(n)
	}
	return nil
}

// readWord is the word of a node that has to be one for which is holds.
func readWord(n tree.Node, is func(string) bool) (string, error) {
	if !isWord(n) {
		return "", noForm(n)
	}
	if !is(n.Word) {
		return "", around(n, api.ErrName)
	}
	return n.Word, nil
}

func readName(n tree.Node) (string, error) { return readWord(n, lex.Name) }

func readUpper(n tree.Node) (string, error) { return readWord(n, lex.Upper) }

// readAll is a new list of what read makes of each node, in order; the first error ends it.
func readAll[T any](l []tree.Node, read func(tree.Node) (T, error)) ([]T, error) {
	var out []T
	for _, n := range l {
		x, err := read(n)
		if err != nil {
			return nil, err
		}
		out = append(out, x)
	}
	return out, nil
}

func readData(n tree.Node) (api.Data, error) {
	if err := checkList(n, 2, maxDataParts); err != nil {
		return api.Data{}, err
	}
	name, err := readUpper(n.L[1])
	if err != nil {
		return api.Data{}, err
	}
	first := 2 // the place of the first constructor
	for first < len(n.L) && isParam(n.L[first]) {
		first++
	}
	params, err := readAll(n.L[2:first], readName)
	if err != nil {
		return api.Data{}, err
	}
	cons, err := readAll(n.L[first:], readCons)
	if err != nil {
		return api.Data{}, err
	}
	return api.Data{Name: name, Params: params, Cons: cons}, nil
}

// isParam is whether a part of a data, ahead of its first constructor, has to be a parameter.
func isParam(n tree.Node) bool { return isWord(n) && 'a' <= n.Word[0] && n.Word[0] <= 'z' }

func readCons(n tree.Node) (api.Cons, error) {
	if isWord(n) {
		name, err := readUpper(n)
		return api.Cons{Name: name}, err
	}
	if err := checkList(n, 2, maxParts); err != nil {
		return api.Cons{}, err
	}
	name, err := readUpper(n.L[0])
	if err != nil {
		return api.Cons{}, err
	}
	args, err := readAll(n.L[1:], readType)
	if err != nil {
		return api.Cons{}, err
	}
	return api.Cons{Name: name, Args: args}, nil
}

func readType(n tree.Node) (api.Type, error) {
	if isWord(n) {
		name, err := readWord(n, isTypeName)
		return api.Type{Name: name}, err
	}
	least, most, isHead := 2, maxParts, lex.Upper
	if head(n) == arrow {
		least, most, isHead = 3, 3, isArrow
	}
	if err := checkList(n, least, most); err != nil {
		return api.Type{}, err
	}
	name, err := readWord(n.L[0], isHead)
	if err != nil {
		return api.Type{}, err
	}
	args, err := readAll(n.L[1:], readType)
	if err != nil {
		return api.Type{}, err
	}
	return api.Type{Name: name, Args: args}, nil
}

// arrow is the name of the types of functions.
const arrow = "->"

func isArrow(s string) bool { return s == arrow }

// isTypeName is whether s is a type without a part: a parameter, or a data's name.
func isTypeName(s string) bool { return lex.Name(s) || lex.Upper(s) }

func readDef(n tree.Node) (api.Def, error) {
	if err := checkList(n, 3, maxDefParts); err != nil {
		return api.Def{}, err
	}
	name, err := readName(n.L[1])
	if err != nil {
		return api.Def{}, err
	}
	last := len(n.L) - 1
	params, err := readAll(n.L[2:last], readName)
	if err != nil {
		return api.Def{}, err
	}
	body, err := readExpr(n.L[last])
	if err != nil {
		return api.Def{}, err
	}
	return api.Def{Name: name, Params: params, Body: body}, nil
}
