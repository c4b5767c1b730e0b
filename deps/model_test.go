package deps_test

import (
	"fmt"
	"math/rand/v2"
	"slices"
	"strconv"
	"strings"
	"testing"

	"gristmill/api"
	"gristmill/deps"
)

// freeNames is the names that are free in the expression, from its parts up: those of the parts less those that are bound in them.
func freeNames(e api.Expr) (l []string) {
	for _, part := range e.L {
		l = append(l, freeNames(part)...)
	}
	l = less(l, e.Names)
	for _, a := range e.Alts {
		l = append(l, less(freeNames(a.E), a.Names)...)
	}
	if e.Op == api.Var {
		l = append(l, e.Name)
	}
	return l
}

// less is the names of l that are not in out.
func less(l, out []string) []string {
	return slices.DeleteFunc(l, func(name string) bool { return slices.Contains(out, name) })
}

func modelUses(p api.Program, def int) (l []int) {
	free := less(freeNames(p.Defs[def].Body), p.Defs[def].Params)
	for i, d := range p.Defs {
		if slices.Contains(free, d.Name) {
			l = append(l, i)
		}
	}
	return l
}

// modelNeeded adds what is used by what is there until that adds nothing.
func modelNeeded(p api.Program, def int) []int {
	l := []int{def}
	for {
		more := slices.Clone(l)
		for _, i := range l {
			more = append(more, modelUses(p, i)...)
		}
		slices.Sort(more)
		more = slices.Compact(more)
		if slices.Equal(l, more) {
			return l
		}
		l = more
	}
}

// modelGroup is the definitions that need the definition and that it needs.
func modelGroup(needed [][]int, def int) (group []int) {
	for _, i := range needed[def] {
		if slices.Contains(needed[i], def) {
			group = append(group, i)
		}
	}
	return group
}

// modelGroups is the first of all the orders of the groups, those with lesser definitions first, in which each stands behind those that it uses.
func modelGroups(p api.Program) [][]int {
	needed := ofAll(p, modelNeeded)
	o := orders{uses: ofAll(p, modelUses)}
	for i := range p.Defs {
		if group := modelGroup(needed, i); group[0] == i {
			o.groups = append(o.groups, group)
		}
	}
	return o.first(nil)
}

// orders are those of the groups.
type orders struct{ uses, groups [][]int }

// isOrder is whether each group uses nothing but what is in it and in those ahead of it.
func (o orders) isOrder(l [][]int) bool {
	for i, group := range l {
		known := slices.Concat(l[:i+1]...)
		for _, def := range group {
			for _, used := range o.uses[def] {
				if !slices.Contains(known, used) {
					return false
				}
			}
		}
	}
	return true
}

// first is the first order that begins with l; nil, if there is none.
func (o orders) first(l [][]int) [][]int {
	switch {
	case !o.isOrder(l):
		return nil
	case len(l) == len(o.groups):
		return l
	}
	for _, group := range o.groups {
		isGroup := func(other []int) bool { return other[0] == group[0] }
		if slices.ContainsFunc(l, isGroup) {
			continue
		}
		if order := o.first(append(slices.Clone(l), group)); order != nil {
			return order
		}
	}
	return nil
}

// wantModel holds the calls against the model.
func wantModel(t *testing.T, s string) {
	t.Helper()
	p := read(t, s)
	want(t, s, fmt.Sprint(ofAll(p, modelUses)), fmt.Sprint(ofAll(p, modelNeeded)), fmt.Sprint(modelGroups(p)))
}

// graph is a program in which the definitions use each other as the lists say; the one at the place main is main.
func graph(uses [][]int, main int) string {
	name := func(i int) string {
		if i == main {
			return "main"
		}
		return "f" + strconv.Itoa(i)
	}
	var b strings.Builder
	for i, l := range uses {
		b.WriteString("(def " + name(i) + " (A 1")
		for _, used := range l {
			b.WriteString(" " + name(used))
		}
		b.WriteString("))")
	}
	return "(data T A)" + b.String()
}

// graphOf has n definitions; the bits say which one uses which one.
func graphOf(n int, bits uint64) [][]int {
	uses := make([][]int, n)
	for i := range n * n {
		if bits>>i&1 > 0 {
			uses[i/n] = append(uses[i/n], i%n)
		}
	}
	return uses
}

func TestAllProgramsOfThreeDefinitions(t *testing.T) {
	for bits := range uint64(1 << 9) {
		wantModel(t, graph(graphOf(3, bits), int(bits)%3))
	}
}

func TestProgramsOfSeveralDefinitions(t *testing.T) {
	r := rand.New(rand.NewPCG(7, 1))
	for range 4000 {
		n := 4 + r.IntN(4)
		bits := r.Uint64() & r.Uint64()
		if r.IntN(3) > 0 {
			bits &= r.Uint64()
		}
		wantModel(t, graph(graphOf(n, bits), r.IntN(n)))
	}
}

// pool is the names of definitions and of what is bound in them; x is no definition's.
var pool = []string{"f", "g", "h", "main", "x"}

// writer writes expressions by chance.
type writer struct{ *rand.Rand }

// names is n names of the pool.
func (w writer) names(n int) []string {
	l := slices.Clone(pool)
	w.Shuffle(len(l), func(i, k int) { l[i], l[k] = l[k], l[i] })
	return l[:n]
}

// list is what the parts are, with spaces between, in brackets.
func list(parts ...string) string { return "(" + strings.Join(parts, " ") + ")" }

// expr writes one in which the names are known, so deep.
func (w writer) expr(deep int, known []string) string {
	part := func(more ...string) string { return w.expr(deep-1, slices.Concat(known, more)) }
	how := w.IntN(8)
	if deep == 0 {
		how = w.IntN(4)
	}
	switch how {
	case 0, 1, 2:
		return known[w.IntN(len(known))]
	case 3:
		return []string{"1", "3p0", "A", "(fail 3)"}[w.IntN(4)]
	case 4:
		return list([]string{"+ ", "seq ", "", ""}[w.IntN(4)]+part(), part())
	case 5:
		l := w.names(1 + w.IntN(2))
		return list("fn", list(l...), part(l...))
	case 6:
		l := w.names(1 + w.IntN(2))
		var bound []string
		for _, name := range l {
			bound = append(bound, list(name, part(l...)))
		}
		return list("let", list(bound...), part(l...))
	}
	l := w.names(2)
	alts := []string{list("A", part()), list("5", part()), list("_", part()), list(list("B", l[0]), part(l[0])), list(list("C", l[0], l[1]), part(l...))}
	w.Shuffle(len(alts), func(i, k int) { alts[i], alts[k] = alts[k], alts[i] })
	return list("case", part(), strings.Join(alts[:1+w.IntN(3)], " "))
}

// program writes one that has a definition of each name of the pool but x.
func (w writer) program() string {
	l := []string{"(data T A (B T) (C T T))"}
	for _, name := range pool[:4] {
		var params []string
		if name != "main" {
			params = w.names(w.IntN(3))
		}
		body := w.expr(1+w.IntN(4), slices.Concat(pool[:4], params))
		l = append(l, list("def", name, strings.Join(params, " "), body))
	}
	return strings.Join(l, " ")
}

// wordsOf is the words of the text, brackets left out.
func wordsOf(s string) []string {
	return strings.FieldsFunc(s, func(r rune) bool { return strings.ContainsRune("() ", r) })
}

func TestProgramsThatHideNames(t *testing.T) {
	w := writer{rand.New(rand.NewPCG(7, 2))}
	used, hidden := 0, 0
	for range 4000 {
		s := w.program()
		wantModel(t, s)
		uses := ofAll(read(t, s), deps.Uses)
		for i, part := range strings.Split(s, "(def ")[1:] {
			words := wordsOf(part)[1:]
			for k, name := range pool[:4] {
				switch {
				case slices.Contains(uses[i], k):
					used++
				case slices.Contains(words, name):
					hidden++
				}
			}
		}
	}
	if used < 10000 || hidden < 10000 {
		t.Errorf("%d were used, %d stood there and were not", used, hidden)
	}
}
