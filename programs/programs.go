// Package programs: programs that the tests of several layers try.
package programs

import (
	"slices"
	"strconv"
	"strings"
)

// Lists is data that the programs have.
const Lists = "(data L a (C a (L a)) N) (data P a b (P a b)) (data B a (B a)) "

// What there is: a whole number, a float, a list of whole numbers, a pair of one and a list, a function from one to one, one from two.
const sorts = "idlpfg"

// Known is a name and its sort; of a definition with parameters, of which sorts these are.
type Known struct {
	Name   string
	Sort   byte
	Params string
}

// Chance tells numbers from 0 up to n, this left out.
type Chance interface{ IntN(n int) int }

// Writer writes programs by chance.
type Writer struct {
	Chance
	Wrong int // of how many parts one is of any sort; 0: none
}

func (w Writer) pick(l ...string) string { return l[w.IntN(len(l))] }

// Sort is any sort.
func (w Writer) Sort() byte { return sorts[w.IntN(len(sorts))] }

// of is one of the names of the sort that takes nothing; none if there is none.
func (w Writer) of(sort byte, in []Known) string {
	for range 8 {
		if k := in[w.IntN(len(in))]; k.Sort == sort && k.Params == "" {
			return k.Name
		}
	}
	return ""
}

// leaf is one that has no parts.
func (w Writer) leaf(sort byte, in []Known) string {
	if name := w.of(sort, in); name != "" && w.IntN(4) > 0 {
		return name
	}
	switch sort {
	case 'i':
		return w.pick("0", "1", "2", "3", "-1", "9223372036854775807")
	case 'd':
		return w.pick("0p0", "1p0", "-3p-1", "inf", "1p70")
	case 'l':
		return "N"
	case 'p':
		return "(P " + w.leaf('i', in) + " " + w.leaf('l', in) + ")"
	case 'f':
		return w.pick("(fn (z) z)", "(fn (x) (- x 1))", "(g2 1)")
	}
	return w.pick("g2", "(fn (x y) (- x y))")
}

// Expr writes one of the sort in which the names are known, so deep.
func (w Writer) Expr(sort byte, deep int, in []Known) string {
	if w.Wrong > 0 && w.IntN(w.Wrong) == 0 {
		sort = w.Sort()
	}
	if deep <= 0 {
		return w.leaf(sort, in)
	}
	part := func(sort byte, more ...Known) string { return w.Expr(sort, deep-1, slices.Concat(in, more)) }
	name := Known{Name: w.pick("x", "y", "z", "h"), Sort: w.Sort()}
	other := Known{Name: w.pick("a", "b", "main"), Sort: w.Sort()}
	switch w.IntN(14) {
	case 0:
		return "(case " + part('i') + " (" + w.pick("0", "1", "2") + " " + part(sort) + ") " + w.pick("(1 "+part(sort)+") ", "", "") + "(_ " + part(sort) + "))"
	case 1:
		x, r := Known{Name: "x", Sort: 'i'}, Known{Name: w.pick("r", "y"), Sort: 'l'}
		return "(case " + part('l') + " ((C x " + r.Name + ") " + part(sort, x, r) + ")" + w.pick(" (N "+part(sort)+"))", " (_ "+part(sort)+"))", ")")
	case 2:
		a, l := Known{Name: w.pick("a", "x"), Sort: 'i'}, Known{Name: "l", Sort: 'l'}
		return "(case " + part('p') + " ((P " + a.Name + " l) " + part(sort, a, l) + "))"
	case 3:
		return "(let ((" + name.Name + " " + part(name.Sort, name) + ")) " + part(sort, name) + ")"
	case 4:
		return "(let ((" + name.Name + " " + part(name.Sort, name, other) + ") (" + other.Name + " " + part(other.Sort, name, other) + ")) " + part(sort, name, other) + ")"
	case 5:
		return "((fn (" + name.Name + ") " + part(sort, name) + ") " + part(name.Sort) + ")"
	case 6:
		return "((fn (" + name.Name + " " + other.Name + ") " + part(sort, name, other) + ") " + part(name.Sort) + " " + part(other.Sort) + ")"
	case 7:
		return "(seq " + part(w.Sort()) + " " + part(sort) + ")"
	case 8, 9:
		if s := w.call(sort, deep, in); s != "" {
			return s
		}
	case 10:
		if w.IntN(8) == 0 {
			return "(fail " + w.pick("0", "7", "12") + ")"
		}
	}
	return w.own(sort, deep, in, part)
}

// call is one of a definition with parameters; none, if there was none.
func (w Writer) call(sort byte, deep int, in []Known) string {
	for range 8 {
		k := in[w.IntN(len(in))]
		if k.Sort != sort || k.Params == "" {
			continue
		}
		s := "(" + k.Name
		for i := range len(k.Params) {
			s += " " + w.Expr(k.Params[i], deep-1, in)
		}
		return s + ")"
	}
	return ""
}

// own is one that only the sort has.
func (w Writer) own(sort byte, deep int, in []Known, part func(byte, ...Known) string) string {
	x, y := Known{Name: w.pick("x", "y"), Sort: 'i'}, Known{Name: w.pick("z", "v"), Sort: 'i'}
	switch sort {
	case 'i':
		return w.pick(
			"("+w.pick("+", "-", "*", "<", "=")+" "+part('i')+" "+part('i')+")", "("+w.pick("div", "mod")+" "+part('i')+" "+w.pick("2", part('i'))+")",
			"("+w.pick("f<", "f=")+" "+part('d')+" "+part('d')+")", "(whole "+part('d')+")", "("+part('f')+" "+part('i')+")", "("+part('g')+" "+part('i')+" "+part('i')+")")
	case 'd':
		return w.pick("("+w.pick("f+", "f-", "f*", "f/")+" "+part('d')+" "+part('d')+")", "(float "+part('i')+")")
	case 'l':
		return w.pick("(C "+part('i')+" "+part('l')+")", "(C "+part('i')+" "+part('l')+")", "((C "+part('i')+") "+part('l')+")", "((case 1 (_ C)) "+part('i')+" "+part('l')+")")
	case 'p':
		return w.pick("(P "+part('i')+" "+part('l')+")", "((P "+part('i')+") "+part('l')+")")
	case 'f':
		return w.pick("(fn ("+x.Name+") "+part('i', x)+")", "("+part('g')+" "+part('i')+")")
	}
	return w.pick("(fn ("+x.Name+" "+y.Name+") "+part('i', x, y)+")", "(fn ("+x.Name+") "+part('f', x)+")")
}

// Program writes one of some definitions and main.
func (w Writer) Program() string {
	in := []Known{{Name: "g2", Sort: 'g'}, {Name: "ones", Sort: 'l'}, {Name: "from", Sort: 'l', Params: "i"}, {Name: "map", Sort: 'l', Params: "fl"}, {Name: "take", Sort: 'l', Params: "il"}, {Name: "sum", Sort: 'i', Params: "l"}}
	names := []string{"f0", "f1", "f2", "f3"}[:w.IntN(5)]
	for _, name := range names {
		k := Known{Name: name, Sort: w.Sort()}
		for range w.IntN(3) {
			k.Params += string(w.Sort())
		}
		in = append(in, k)
	}
	s := Lists + "(def g2 x y (+ x (* 2 y))) (def ones (C 1 ones)) (def from n (C n (from (+ n 1)))) (def map f l (case l (N N) ((C x r) (C (f x) (map f r))))) (def take n l (case n (0 N) (_ (case l (N N) ((C x r) (C x (take (- n 1) r))))))) (def sum l (case l (N 0) ((C x r) (+ x (sum r)))))"
	for _, k := range in[6:] {
		var params []string
		inner := slices.Clone(in)
		for i := range len(k.Params) {
			params = append(params, "p"+strconv.Itoa(i))
			for range 3 {
				inner = append(inner, Known{Name: "p" + strconv.Itoa(i), Sort: k.Params[i]})
			}
		}
		s += " (def " + k.Name + " " + strings.Join(params, " ") + " " + w.Expr(k.Sort, 1+w.IntN(3), inner) + ")"
	}
	return s + " (def main " + w.Expr(sorts[w.IntN(4)], 1+w.IntN(5), in) + ")"
}
