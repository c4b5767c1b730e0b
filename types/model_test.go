package types_test

import (
	"math/rand/v2"
	"slices"
	"strings"
	"testing"

	"gristmill/api"
	"gristmill/types"
)

// solver is what the chapter asks of Unify, written another way: by one variable after the other, which is replaced all over at once.
type solver struct {
	order []string // the variables as they come
	names []string
	to    []api.Type
}

// solve makes a and b the same; false, if they can't be.
func (s *solver) solve(a, b api.Type) bool {
	a, b = types.Apply(a, s.names, s.to), types.Apply(b, s.names, s.to)
	isA, isB := slices.Contains(s.order, a.Name), slices.Contains(s.order, b.Name)
	switch {
	case types.Same(a, b):
		return true
	case isA && isB && slices.Index(s.order, a.Name) < slices.Index(s.order, b.Name):
		return s.replace(b.Name, a)
	case isA:
		return s.replace(a.Name, b)
	case isB:
		return s.replace(b.Name, a)
	case a.Name != b.Name || len(a.Args) != len(b.Args):
		return false
	}
	for i := range a.Args {
		if !s.solve(a.Args[i], b.Args[i]) {
			return false
		}
	}
	return true
}

// replace makes the variable become t all over; false, if it is within t.
func (s *solver) replace(name string, t api.Type) bool {
	if slices.Contains(types.Vars(t), name) {
		return false
	}
	for i, x := range s.to {
		s.to[i] = types.Apply(x, []string{name}, []api.Type{t})
	}
	s.names, s.to = append(s.names, name), append(s.to, t)
	return true
}

// modelUnify is what Unify has to answer of lists that are as long and become no more than they may.
func modelUnify(a, b []api.Type) (names, to string, err error) {
	s := solver{order: types.Vars(slices.Concat(a, b)...)}
	for i := range a {
		if !s.solve(a[i], b[i]) {
			return "", "", api.ErrType
		}
	}
	l := slices.Sorted(slices.Values(s.names))
	var out []api.Type
	for _, name := range l {
		out = append(out, s.to[slices.Index(s.names, name)])
	}
	return strings.Join(l, " "), written(out), nil
}

// tally counts the answers: with no names, with some, with a variable that stays for another one, ErrType.
type tally struct{ none, some, vars, wrong int }

func (n *tally) hold(t *testing.T, a, b []api.Type) {
	t.Helper()
	names, to, err := modelUnify(a, b)
	got, gotTo, gotErr := types.Unify(a, b)
	if strings.Join(got, " ") != names || written(gotTo) != to || gotErr != err {
		t.Fatalf("%q, %q: %q, %q, %v; want %q, %q, %v", written(a), written(b), got, written(gotTo), gotErr, names, to, err)
	}
	switch {
	case err != nil:
		n.wrong++
	case names == "":
		n.none++
	case len(types.Vars(gotTo...)) > 0:
		n.vars++
	default:
		n.some++
	}
}

// all is each type of at most that many levels of the words: variables and names alone, then those with one part and with two.
func all(levels int, alone, one, two []string) (l []api.Type) {
	for _, name := range alone {
		l = append(l, ty(name))
	}
	if levels == 1 {
		return l
	}
	parts := all(levels-1, alone, one, two)
	for _, a := range parts {
		for _, name := range one {
			l = append(l, ty(name, a))
		}
		for _, b := range parts {
			for _, name := range two {
				l = append(l, ty(name, a, b))
			}
		}
	}
	return l
}

func TestUnifyOfAllSmallTypes(t *testing.T) {
	var n tally
	l := all(3, []string{"b", "a", "Int"}, []string{"L"}, []string{"->"})
	for _, a := range l {
		for _, b := range l {
			n.hold(t, []api.Type{a}, []api.Type{b})
		}
	}
	l = all(2, []string{"c", "a", "b"}, []string{"L"}, []string{"P"})
	for _, a := range l {
		for _, b := range l {
			for _, c := range l {
				n.hold(t, []api.Type{a, ty("b")}, []api.Type{b, c})
				n.hold(t, []api.Type{ty("P", ty("b"), a), b}, []api.Type{ty("P", c, ty("c")), ty("a")})
			}
		}
	}
	if n.none < 200 || n.some < 2000 || n.vars < 2500 || n.wrong < 10000 {
		t.Error(n)
	}
}

// chance is a type by chance of at most that many levels.
func chance(r *rand.Rand, levels, vars int) api.Type {
	i := r.IntN(10)
	switch {
	case levels == 1 || i < 4:
		if r.IntN(12) == 0 {
			return ty("Int")
		}
		return ty(string(rune('a' + r.IntN(vars))))
	case i < 6:
		return ty("L", chance(r, levels-1, vars))
	}
	return ty("P", chance(r, levels-1, vars), chance(r, levels-1, vars))
}

func TestUnifyOfTypesByChance(t *testing.T) {
	var n tally
	r := rand.New(rand.NewPCG(8, 2))
	for range 60000 {
		var a, b []api.Type
		vars := 3 + r.IntN(15)
		for range 1 + r.IntN(5) {
			a, b = append(a, chance(r, 1+r.IntN(3), vars)), append(b, chance(r, 1+r.IntN(3), vars))
		}
		n.hold(t, a, b)
	}
	if n.none < 200 || n.some < 500 || n.vars < 10000 || n.wrong < 10000 {
		t.Error(n)
	}
}

// within is the type and all that are in it.
func within(t api.Type) []api.Type {
	l := []api.Type{t}
	for _, arg := range t.Args {
		l = append(l, within(arg)...)
	}
	return l
}

// modelInstance tries for general's variables all that is in t.
func modelInstance(general, t api.Type, names []string, to []api.Type) bool {
	if len(to) == len(names) {
		return types.Text(types.Apply(general, names, to)) == types.Text(t)
	}
	return slices.ContainsFunc(within(t), func(x api.Type) bool { return modelInstance(general, t, names, append(slices.Clip(to), x)) })
}

func TestInstanceOfAllSmallTypes(t *testing.T) {
	right, wrong := 0, 0
	l := all(3, []string{"a", "b"}, []string{"L"}, []string{"P"})
	for _, general := range l {
		for _, x := range l {
			want := modelInstance(general, x, types.Vars(general), nil)
			if types.Instance(general, x) != want {
				t.Fatalf("%q, %q: %v", types.Text(general), types.Text(x), !want)
			}
			if want {
				right++
			} else {
				wrong++
			}
		}
	}
	if right < 500 || wrong < 4500 {
		t.Error(right, wrong)
	}
}

// Whatever types for the variables make two types the same: what they are then is an instance of what Unify makes of them, and Unify tells some.
func TestUnifyIsTheMostGeneral(t *testing.T) {
	same := 0
	names := []string{"a", "b", "c"}
	trials := all(2, []string{"a", "Int"}, []string{"L"}, nil)
	l := all(2, names, []string{"L"}, []string{"P"})
	for _, a := range l {
		for _, b := range l {
			unified, to, err := types.Unify([]api.Type{a}, []api.Type{b})
			most := types.Apply(a, unified, to)
			if err == nil && !types.Same(most, types.Apply(b, unified, to)) {
				t.Fatalf("%q, %q: %q, %q", types.Text(a), types.Text(b), unified, written(to))
			}
			for i := range len(trials) * len(trials) * len(trials) {
				n := len(trials)
				trial := []api.Type{trials[i%n], trials[i/n%n], trials[i/n/n]}
				x := types.Apply(a, names, trial)
				if !types.Same(x, types.Apply(b, names, trial)) {
					continue
				}
				same++
				if err != nil || !types.Instance(most, x) {
					t.Fatalf("%q, %q: %v; they can be %q", types.Text(a), types.Text(b), err, types.Text(x))
				}
			}
		}
	}
	if same < 1000 {
		t.Error(same)
	}
}
