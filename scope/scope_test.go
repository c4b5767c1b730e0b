package scope_test

import (
	"testing"

	"gristmill/api"
	"gristmill/scope"
)

func wantCons(t *testing.T, p api.Program, name string, data, place int, is bool) {
	t.Helper()
	if i, k, ok := scope.Cons(p, name); i != data || k != place || ok != is {
		t.Errorf("Cons of %q: %d, %d, %v; want %d, %d, %v", name, i, k, ok, data, place, is)
	}
}

func wantDef(t *testing.T, p api.Program, name string, place int, is bool) {
	t.Helper()
	if i, ok := scope.Def(p, name); i != place || ok != is {
		t.Errorf("Def of %q: %d, %v; want %d, %v", name, i, ok, place, is)
	}
}

func wantData(t *testing.T, p api.Program, name string, place int, is bool) {
	t.Helper()
	if i, ok := scope.Data(p, name); i != place || ok != is {
		t.Errorf("Data of %q: %d, %v; want %d, %v", name, i, ok, place, is)
	}
}

func TestPlaces(t *testing.T) {
	p := read(t, "(data T A (B T) U) (def f x x) (data U a) (data V a (C a) V (D (V a) a)) (def main y 1) (def g main 1)")
	for i, l := range [][]string{{"A", "B", "U"}, {}, {"C", "V", "D"}} {
		for k, name := range l {
			wantCons(t, p, name, i, k, true)
		}
	}
	for i, name := range []string{"T", "U", "V"} {
		wantData(t, p, name, i, true)
	}
	for i, name := range []string{"f", "main", "g"} {
		wantDef(t, p, name, i, true)
	}
	for _, name := range []string{"T", "Int", "Float", "a", "b", "AB", "", "f", "main", "_", "->"} {
		wantCons(t, p, name, 0, 0, false)
	}
	for _, name := range []string{"A", "D", "Int", "Float", "a", "TU", "", "f", "main", "->"} {
		wantData(t, p, name, 0, false)
	}
	for _, name := range []string{"x", "y", "T", "A", "fg", "mai", "main2", "", "+"} {
		wantDef(t, p, name, 0, false)
	}
}

func TestPlacesInAnEmptyProgram(t *testing.T) {
	for _, p := range []api.Program{{}, {Datas: []api.Data{}, Defs: []api.Def{}}} {
		for _, name := range []string{"", "main", "Int", "C"} {
			wantCons(t, p, name, 0, 0, false)
			wantDef(t, p, name, 0, false)
			wantData(t, p, name, 0, false)
		}
	}
}

// Of several of one name it is the first; what the program is beside, no matter.
func TestPlacesAreTheFirst(t *testing.T) {
	p := read(t, "(data T A B A) (data Int B C) (data T C D D) (def f x) (def g 1) (def f 2) (def g 3)")
	wantCons(t, p, "A", 0, 0, true)
	wantCons(t, p, "B", 0, 1, true)
	wantCons(t, p, "C", 1, 1, true)
	wantCons(t, p, "D", 2, 1, true)
	wantData(t, p, "T", 0, true)
	wantData(t, p, "Int", 1, true)
	wantDef(t, p, "f", 0, true)
	wantDef(t, p, "g", 1, true)
	// One that syn.Valid does not take.
	p = api.Program{Datas: make([]api.Data, 300), Defs: make([]api.Def, 300)}
	p.Datas[299] = api.Data{Name: "+", Cons: []api.Cons{{Name: "1"}, {}, {Name: "x"}, {}}}
	p.Defs[299].Name = "X"
	wantCons(t, p, "", 299, 1, true)
	wantCons(t, p, "x", 299, 2, true)
	wantData(t, p, "", 0, true)
	wantData(t, p, "+", 299, true)
	wantDef(t, p, "", 0, true)
	wantDef(t, p, "X", 299, true)
}
