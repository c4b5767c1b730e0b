package flo_test

import (
	"math"
	"math/big"
	"testing"

	"gristmill/flo"
)

const (
	posInf  = 0x7ff0000000000000
	negInf  = 0xfff0000000000000
	negZero = 0x8000000000000000
	least   = 1                  // the least float above 0
	most    = 0x7fefffffffffffff // the greatest one that is not infinite
	normal  = 0x0010000000000000 // the least one that is not subnormal
)

func bits(x float64) uint64 { return math.Float64bits(x) }

// noNumbers: quiet and signalling ones, with either sign, at both ends of their range.
func noNumbers() []uint64 {
	return []uint64{flo.NaN, 0x7ff0000000000001, 0x7ff7ffffffffffff, 0x7ff8000000000001, 0x7fffffffffffffff, 0xfff0000000000001, 0xfff8000000000000, 0xffffffffffffffff}
}

// finites: both zeros, the least and the greatest, subnormal ones, ones with all digits, and some made by a short rule; each with both signs.
func finites() []uint64 {
	l := []uint64{0, least, 2, 3, normal - 1, normal, normal + 1, most - 1, most, bits(1), bits(1) - 1, bits(1) + 1, bits(0.1), bits(0.5), bits(1.5), bits(3), bits(10), bits(1 << 52), bits(1 << 53), bits(1<<53) - 1, bits(1<<53) + 1, bits(1 << 62), bits(1 << 63), bits(1<<63) - 1, bits(1e-300), bits(1e300), bits(math.Pi)}
	a := uint64(1)
	for range 60 {
		a = a*6364136223846793005 + 1442695040888963407
		if a&posInf != posInf {
			l = append(l, a&^negZero)
		}
	}
	for _, a := range l[:len(l):len(l)] {
		l = append(l, a|negZero)
	}
	return l
}

func TestCanon(t *testing.T) {
	if flo.NaN != 0x7ff8000000000000 {
		t.Error("NaN")
	}
	for _, a := range noNumbers() {
		if c := flo.Canon(a); c != flo.NaN {
			t.Errorf("Canon(%#x): %#x", a, c)
		}
	}
	for _, a := range append(finites(), posInf, negInf) {
		if c := flo.Canon(a); c != a {
			t.Errorf("Canon(%#x): %#x", a, c)
		}
	}
}

// exactly is what a op b is without bounds, rounded to the nearest float (even) once; op is none of a division by 0.
func exactly(op string, a, b uint64) float64 {
	x := new(big.Rat).SetFloat64(math.Float64frombits(a))
	y := new(big.Rat).SetFloat64(math.Float64frombits(b))
	switch op {
	case "f+":
		x.Add(x, y)
	case "f-":
		x.Sub(x, y)
	case "f*":
		x.Mul(x, y)
	case "f/":
		x.Quo(x, y)
	}
	f, _ := x.Float64()
	return f
}

func TestDoIsExactAndRoundedOnce(t *testing.T) {
	for _, op := range []string{"f+", "f-", "f*", "f/"} {
		for _, a := range finites() {
			for _, b := range finites() {
				if op == "f/" && b&^negZero == 0 {
					continue
				}
				got, ok := flo.Do(op, a, b)
				want := bits(exactly(op, a, b))
				zero := want&^negZero == 0 && got&^negZero == 0 // which of them: TestDoAtTheEdges
				if !ok || got != want && !zero {
					t.Fatalf("%s of %#x, %#x: %#x, %v; want %#x", op, a, b, got, ok, want)
				}
			}
		}
	}
}

func TestDoAtTheEdges(t *testing.T) {
	for _, x := range []struct {
		op         string
		a, b, want uint64
	}{
		{"f+", 0, 0, 0}, {"f+", 0, negZero, 0}, {"f+", negZero, 0, 0}, {"f+", negZero, negZero, negZero}, {"f+", bits(1), bits(-1), 0},
		{"f-", 0, 0, 0}, {"f-", 0, negZero, 0}, {"f-", negZero, 0, negZero}, {"f-", negZero, negZero, 0}, {"f-", bits(1), bits(1), 0},
		{"f*", 0, bits(-3), negZero}, {"f*", negZero, bits(-3), 0}, {"f*", negZero, bits(3), negZero}, {"f*", negZero, negZero, 0}, {"f*", least, least | negZero, negZero},
		{"f/", 0, bits(-3), negZero}, {"f/", negZero, bits(-3), 0}, {"f/", bits(1), negInf, negZero}, {"f/", bits(-1), negInf, 0}, {"f/", least, bits(-4), negZero},
		{"f/", bits(1), 0, posInf}, {"f/", bits(1), negZero, negInf}, {"f/", bits(-1), 0, negInf}, {"f/", bits(-1), negZero, posInf},
		{"f+", posInf, posInf, posInf}, {"f+", negInf, most, negInf}, {"f-", posInf, negInf, posInf}, {"f-", most, posInf, negInf},
		{"f*", posInf, bits(-2), negInf}, {"f*", negInf, negInf, posInf}, {"f/", posInf, bits(-2), negInf}, {"f/", negInf, negZero, posInf},
		{"f+", posInf, negInf, flo.NaN}, {"f+", negInf, posInf, flo.NaN}, {"f-", posInf, posInf, flo.NaN}, {"f-", negInf, negInf, flo.NaN},
		{"f*", posInf, 0, flo.NaN}, {"f*", negZero, negInf, flo.NaN}, {"f/", 0, 0, flo.NaN}, {"f/", 0, negZero, flo.NaN}, {"f/", posInf, negInf, flo.NaN},
		{"f+", most, most, posInf}, {"f-", most | negZero, most, negInf}, {"f*", most, bits(2), posInf}, {"f/", most, bits(0.5), posInf},
		{"f+", most, bits(math.Ldexp(1, 969)), most}, {"f+", most, bits(math.Ldexp(1, 970)), posInf},
		{"f+", bits(1 << 53), bits(1), bits(1 << 53)}, {"f+", bits(1<<53 + 2), bits(1), bits(1<<53 + 4)}, {"f-", bits(-1 << 53), bits(1), bits(-1 << 53)},
		{"f/", least, bits(2), 0}, {"f/", 3, bits(2), 2}, {"f*", 5, bits(0.5), 2}, {"f*", least, bits(0.75), least}, {"f-", normal, least, normal - 1},
		{"f+", bits(0.1), bits(0.2), 0x3fd3333333333334}, {"f-", bits(1), bits(3), bits(-2)}, {"f/", bits(1), bits(3), 0x3fd5555555555555},
	} {
		if a, ok := flo.Do(x.op, x.a, x.b); a != x.want || !ok {
			t.Errorf("%s of %#x, %#x: %#x, %v; want %#x", x.op, x.a, x.b, a, ok, x.want)
		}
	}
}

func TestDoOfNoNumberIsCanonical(t *testing.T) {
	for _, op := range []string{"f+", "f-", "f*", "f/"} {
		for _, n := range noNumbers() {
			for _, b := range append(finites(), posInf, negInf, 0xfff8000000000001) {
				if a, ok := flo.Do(op, n, b); a != flo.NaN || !ok {
					t.Fatalf("%s of %#x, %#x: %#x, %v", op, n, b, a, ok)
				}
				if a, ok := flo.Do(op, b, n); a != flo.NaN || !ok {
					t.Fatalf("%s of %#x, %#x: %#x, %v", op, b, n, a, ok)
				}
			}
		}
	}
}

func TestNoSuchName(t *testing.T) {
	others := []string{"", "f", "+", "-", "*", "/", "<", "=", "f%", "F+", "f+ ", " f+", "f++", "f<=", "f>", "float", "whole", "div", "seq", "f+\x00", "\xff"}
	for _, s := range append(others, "f<", "f=") {
		if a, ok := flo.Do(s, bits(1), bits(2)); a != 0 || ok {
			t.Errorf("Do %q: %#x, %v", s, a, ok)
		}
	}
	for _, s := range append(others, "f+", "f-", "f*", "f/") {
		if is, ok := flo.Is(s, bits(1), bits(1)); is || ok {
			t.Errorf("Is %q: %v, %v", s, is, ok)
		}
	}
}

func wantIs(t *testing.T, name string, a, b uint64, want bool) {
	t.Helper()
	if is, ok := flo.Is(name, a, b); is != want || !ok {
		t.Errorf("%s of %#x, %#x: %v, %v", name, a, b, is, ok)
	}
}

func TestIs(t *testing.T) {
	up := []uint64{negInf, most | negZero, bits(-2), bits(-1) + 1, bits(-1), normal | negZero, least | negZero, 0, least, normal, bits(1), bits(1) + 1, bits(2), most, posInf}
	for i, a := range up {
		for j, b := range up {
			wantIs(t, "f<", a, b, i < j)
			wantIs(t, "f=", a, b, i == j)
		}
	}
	for _, z := range [][2]uint64{{0, negZero}, {negZero, 0}, {negZero, negZero}} {
		wantIs(t, "f<", z[0], z[1], false)
		wantIs(t, "f=", z[0], z[1], true)
	}
	for _, n := range noNumbers() {
		for _, b := range append(up, negZero, n, flo.NaN) {
			for _, name := range []string{"f<", "f="} {
				wantIs(t, name, n, b, false)
				wantIs(t, name, b, n, false)
			}
		}
	}
}

// wholes: near both ends, near each power of 2, and halves between two floats.
func wholes() []int64 {
	l := []int64{0, 10, 1<<53 + 1, 1<<53 + 3, 1<<54 + 2, 1<<54 + 6, 1<<62 + 256, 1<<62 + 768, math.MaxInt64 - 511, math.MaxInt64 - 512, math.MaxInt64 - 1023}
	for i := range 63 {
		l = append(l, 1<<i-1, 1<<i, 1<<i+1)
	}
	for _, n := range l[:len(l):len(l)] {
		l = append(l, -n)
	}
	return append(l, math.MaxInt64, -math.MaxInt64, math.MinInt64, math.MinInt64+512, math.MinInt64+513)
}

func TestOfInt(t *testing.T) {
	for _, n := range wholes() {
		want, _ := new(big.Rat).SetInt64(n).Float64()
		if a := flo.OfInt(n); a != bits(want) {
			t.Errorf("OfInt(%d): %#x; want %#x", n, a, bits(want))
		}
	}
	for _, x := range []struct {
		n    int64
		want uint64
	}{{0, 0}, {-7, bits(-7)}, {1<<53 + 1, bits(1 << 53)}, {1<<53 + 3, bits(1<<53 + 4)}, {-1<<53 - 1, bits(-1 << 53)}, {math.MaxInt64, 0x43e0000000000000}, {math.MaxInt64 - 512, 0x43dfffffffffffff}, {math.MinInt64, 0xc3e0000000000000}} {
		if a := flo.OfInt(x.n); a != x.want {
			t.Errorf("OfInt(%d): %#x; want %#x", x.n, a, x.want)
		}
	}
}

func TestToInt(t *testing.T) {
	for _, x := range []struct {
		a    uint64
		want int64
		ok   bool
	}{
		{0, 0, true}, {negZero, 0, true}, {least, 0, true}, {least | negZero, 0, true}, {bits(1) - 1, 0, true}, {bits(-1) - 1, 0, true},
		{bits(0.5), 0, true}, {bits(1.5), 1, true}, {bits(2.5), 2, true}, {bits(-1.5), -1, true}, {bits(-2.5), -2, true}, {bits(1.9), 1, true}, {bits(-1.9), -1, true},
		{bits(1<<52 + 0.5), 1 << 52, true}, {bits(1<<51 + 0.5), 1 << 51, true}, {bits(1 << 53), 1 << 53, true},
		{bits(1<<63) - 1, math.MaxInt64 - 1023, true}, {bits(1 << 63), 0, false}, {bits(1<<63) + 1, 0, false},
		{bits(-1 << 63), math.MinInt64, true}, {bits(-1<<63) - 1, math.MinInt64 + 1024, true}, {bits(-1<<63) + 1, 0, false},
		{bits(1 << 64), 0, false}, {most, 0, false}, {most | negZero, 0, false}, {posInf, 0, false}, {negInf, 0, false},
	} {
		if n, ok := flo.ToInt(x.a); n != x.want || ok != x.ok {
			t.Errorf("ToInt(%#x): %d, %v; want %d, %v", x.a, n, ok, x.want, x.ok)
		}
	}
	for _, a := range noNumbers() {
		if n, ok := flo.ToInt(a); n != 0 || ok {
			t.Errorf("ToInt(%#x): %d, %v", a, n, ok)
		}
	}
	for _, a := range finites() {
		want, _ := big.NewFloat(math.Float64frombits(a)).Int(nil)
		n, ok := flo.ToInt(a)
		if ok != want.IsInt64() || ok && n != want.Int64() || !ok && n != 0 {
			t.Errorf("ToInt(%#x): %d, %v; want %v", a, n, ok, want)
		}
	}
}
