package flo_test

import (
	"math"
	"math/big"
	"strconv"
	"strings"
	"testing"

	"gristmill/api"
	"gristmill/flo"
)

func wantText(t *testing.T, a uint64, want string) {
	t.Helper()
	if s := flo.Text(a); s != want {
		t.Errorf("Text(%#x): %q; want %q", a, s, want)
	}
	if b, err := flo.Parse(want); b != flo.Canon(a) || err != nil {
		t.Errorf("Parse(%q): %#x, %v; want %#x", want, b, err, flo.Canon(a))
	}
}

func wantNone(t *testing.T, s string) {
	t.Helper()
	if a, err := flo.Parse(s); a != 0 || err != api.ErrNumber {
		t.Errorf("Parse(%q): %#x, %v", s, a, err)
	}
}

func TestText(t *testing.T) {
	for _, a := range noNumbers() {
		wantText(t, a, "nan")
	}
	for _, x := range []struct {
		a    uint64
		want string
	}{
		{posInf, "inf"}, {negInf, "-inf"}, {0, "0p0"}, {negZero, "-0p0"},
		{bits(1), "1p0"}, {bits(-1), "-1p0"}, {bits(1.5), "3p-1"}, {bits(-1.5), "-3p-1"}, {bits(2), "1p1"}, {bits(10), "5p1"}, {bits(7), "7p0"}, {bits(0.1), "3602879701896397p-55"},
		{least, "1p-1074"}, {least | negZero, "-1p-1074"}, {2, "1p-1073"}, {3, "3p-1074"}, {normal - 1, "4503599627370495p-1074"}, {normal - 2, "2251799813685247p-1073"},
		{normal, "1p-1022"}, {normal + 1, "4503599627370497p-1074"}, {2*normal - 1, "9007199254740991p-1074"}, {(2*normal - 1) | negZero, "-9007199254740991p-1074"}, {2 * normal, "1p-1021"},
		{most, "9007199254740991p971"}, {most | negZero, "-9007199254740991p971"}, {0x7fe0000000000000, "1p1023"}, {bits(1 << 53), "1p53"}, {bits(1<<53 + 2), "4503599627370497p1"}, {bits(1<<53 - 1), "9007199254740991p0"},
	} {
		wantText(t, x.a, x.want)
	}
}

// sharesOf takes a Text of a finite float apart: its sign, M and E.
func sharesOf(t *testing.T, s string) (bool, *big.Int, int) {
	t.Helper()
	rest, minus := strings.CutPrefix(s, "-")
	m, e, _ := strings.Cut(rest, "p")
	n, ok := new(big.Int).SetString(m, 10)
	k, err := strconv.Atoi(e)
	if !ok || err != nil || n.Sign() < 0 || n.String() != m || strconv.Itoa(k) != e {
		t.Fatalf("%q is no Text", s)
	}
	return minus, n, k
}

func TestTextIsExact(t *testing.T) {
	for _, a := range finites() {
		s := flo.Text(a)
		minus, m, e := sharesOf(t, s)
		if minus != math.Signbit(math.Float64frombits(a)) {
			t.Errorf("Text(%#x): %q: its sign", a, s)
		}
		if m.Bit(0) == 0 && (m.Sign() != 0 || e != 0) {
			t.Errorf("Text(%#x): %q: M is even", a, s)
		}
		f := new(big.Float).SetMantExp(new(big.Float).SetInt(m), e)
		if f.Cmp(big.NewFloat(math.Abs(math.Float64frombits(a)))) != 0 {
			t.Errorf("Text(%#x): %q: another number", a, s)
		}
		if b, err := flo.Parse(s); b != a || err != nil {
			t.Errorf("Parse(%q): %#x, %v; want %#x", s, b, err, a)
		}
	}
}

func TestParseOfNoText(t *testing.T) {
	for _, s := range []string{
		"", "-", "p", "-p", "1", "-1", "1p", "p1", "1pp1", "1p1p1", "1p-", "p-1", "0", "1.5", "1.5p0", "1e3", "0x1p0", "1_1p0", "11p1_0", "1P0",
		"2p0", "10p0", "6p-1074", "0p1", "0p-1", "-0p1", "00p0", "01p0", "-01p0", "1p00", "1p-0", "1p01", "1p-01", "0p-0", "+1p0", "1p+1", "--1p0", "1p--1", "-+1p0",
		"nan ", "-nan", "+nan", "NaN", "nanp0", "+inf", "--inf", "Inf", "infinity", "infp0", "-Inf", "in", "na",
		" 1p0", "1p0 ", "1 p0", "1p 0", "- 1p0", "1p0\n", "1p0\x00", "\x001p0", "1p\xff", "\u0661p0", "1p0(", "(1p0)",
		"1p1024", "3p1023", "-1p1024", "1p-1075", "3p-1075", "-3p-1075", "1p-1076", "9007199254740991p972", "9007199254740991p-1075", "4503599627370497p-1075",
		"9007199254740993p0", "9007199254740993p-1074", "18014398509481983p0", "18014398509481985p-1", "18446744073709551615p0", "18446744073709551617p0", "340282366920938463463374607431768211457p0",
		"1p32768", "1p65536", "1p-65536", "1p4294967296", "1p9223372036854775807", "1p-9223372036854775808", "1p18446744073709551616", "1p99999999999999999999", "1p-99999999999999999999",
	} {
		wantNone(t, s)
	}
	long := strings.Repeat("0", 1<<16)
	for _, s := range []string{long, long + "1p0", "1p" + long, "1p0" + long, "-" + long + "p0", strings.Repeat("7", 1<<16) + "p0", "1p" + strings.Repeat("7", 1<<16)} {
		wantNone(t, s)
	}
}

// TestParseIsStrict: whatever is near a Text is one itself, or none.
func TestParseIsStrict(t *testing.T) {
	const all = "0123456789p-+. einfaN"
	for _, a := range []uint64{0, negZero, bits(1), bits(-1.5), bits(10), least, most, posInf, negInf, flo.NaN} {
		s := flo.Text(a)
		for i := range len(s) + 1 {
			for _, c := range all {
				strictly(t, s[:i]+string(c)+s[i:])
				if i < len(s) {
					strictly(t, s[:i]+string(c)+s[i+1:])
				}
			}
			if i < len(s) {
				strictly(t, s[:i]+s[i+1:])
			}
		}
	}
}

func strictly(t *testing.T, s string) {
	t.Helper()
	a, err := flo.Parse(s)
	if err == nil && (flo.Text(a) != s || flo.Canon(a) != a) || err != nil && (err != api.ErrNumber || a != 0) {
		t.Errorf("Parse(%q): %#x, %v", s, a, err)
	}
}
