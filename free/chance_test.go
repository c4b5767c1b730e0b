package free_test

import (
	"math/rand/v2"
	"slices"
	"strings"
	"testing"

	"gristmill/free"
)

// writer writes expressions by chance.
type writer struct{ *rand.Rand }

func (w writer) pick(l ...string) string { return l[w.IntN(len(l))] }

func (w writer) name() string { return w.pick("x", "y", "z", "w", "x_1", "f") }

// many is what one writes, so often, with spaces between.
func (w writer) many(least, most int, one func() string) string {
	var l []string
	for range least + w.IntN(most-least+1) {
		l = append(l, one())
	}
	return strings.Join(l, " ")
}

// expr writes one so deep.
func (w writer) expr(deep int) string {
	part := func() string { return w.expr(deep - 1 - w.IntN(2)) }
	how := w.IntN(10)
	if deep <= 0 {
		how = w.IntN(4)
	}
	switch how {
	case 0, 1, 2:
		return w.name()
	case 3:
		return w.pick("C", "12", "-1p-2", "(fail 3)")
	case 4:
		return "(" + w.many(2, 4, part) + ")"
	case 5:
		return "(" + w.pick("+", "seq", "f<") + " " + part() + " " + part() + ")"
	case 6, 7:
		return "(fn (" + w.many(1, 3, w.name) + ") " + part() + ")"
	case 8:
		return "(let (" + w.many(1, 3, func() string { return "(" + w.name() + " " + part() + ")" }) + ") " + part() + ")"
	}
	return "(case " + part() + " " + w.many(1, 3, func() string {
		return "(" + w.pick("_", "1", "-7", "D", "(C "+w.many(1, 3, w.name)+")") + " " + part() + ")"
	}) + ")"
}

func TestExpressionsByChance(t *testing.T) {
	w := writer{rand.New(rand.NewPCG(10, 1))}
	for range 5000 {
		e, by := read(t, w.expr(1+w.IntN(5))), read(t, w.expr(w.IntN(4)))
		hold(t, e, by, w.name(), w.name())
	}
}

// What the calls tell of one another's answers.
func TestCallsTogether(t *testing.T) {
	w := writer{rand.New(rand.NewPCG(10, 2))}
	for range 5000 {
		e, name := read(t, w.expr(1+w.IntN(5))), w.name()
		names, bound := free.Names(e), free.Bound(e)
		fresh := free.Fresh(name, slices.Concat(names, bound)...)
		other := free.Rename(e, name, fresh)
		want := slices.Clone(names)
		if i := slices.Index(want, name); i >= 0 {
			want[i] = fresh
		}
		if got := free.Names(other); !slices.Equal(got, want) {
			t.Fatalf("%q, %s to %s: %q; want %q", text(e), name, fresh, got, want)
		}
		if got := free.Bound(other); !slices.Equal(got, bound) {
			t.Fatalf("%q, %s to %s: %q; want %q", text(e), name, fresh, got, bound)
		}
		if fresh != name && !same(free.Rename(other, fresh, name), e) {
			t.Fatalf("%q, %s to %s and back: %q", text(e), name, fresh, text(free.Rename(other, fresh, name)))
		}
		if !same(free.Rename(e, name, name), e) || !slices.Contains(names, name) && !same(other, e) {
			t.Fatalf("%q, %s: %q", text(e), name, text(other))
		}
		closed := fn(e, append(names, "x")...)
		if !free.Closed(closed) || !same(free.Subst(closed, name, read(t, "1")), closed) {
			t.Fatalf("%q", text(closed))
		}
	}
}
