package num_test

import (
	"math"
	"math/big"
	"strings"
	"testing"

	"gristmill/api"
	"gristmill/num"
)

const (
	least = math.MinInt64
	most  = math.MaxInt64
)

// numbers: those around 0, around the ends and around powers of 2, and some made by a short rule.
func numbers() []int64 {
	l := []int64{0, least, least + 1, most, most - 1}
	for _, k := range []int{0, 1, 2, 31, 32, 33, 53, 61, 62} {
		l = append(l, 1<<k-1, 1<<k, 1<<k+1, -(1<<k - 1), -(1 << k), -(1<<k + 1))
	}
	a := uint64(1)
	for i := range 60 {
		a = a*6364136223846793005 + 1442695040888963407
		l = append(l, int64(a)>>(i%60))
	}
	return l
}

// round is x as it is when it has gone round.
func round(x *big.Int) int64 {
	low := new(big.Int).And(x, new(big.Int).SetUint64(math.MaxUint64))
	return int64(low.Uint64())
}

// exactly is what a name b is without bounds, gone round; b is not 0 where it divides.
func exactly(name string, a, b int64) int64 {
	x, y, z := big.NewInt(a), big.NewInt(b), new(big.Int)
	switch name {
	case "+":
		z.Add(x, y)
	case "-":
		z.Sub(x, y)
	case "*":
		z.Mul(x, y)
	case "div":
		z.Quo(x, y)
	case "mod":
		z.Rem(x, y)
	case "<":
		if x.Cmp(y) < 0 {
			return 1
		}
	case "=":
		if x.Cmp(y) == 0 {
			return 1
		}
	}
	return round(z)
}

func TestDoIsExactAndGoesRound(t *testing.T) {
	for _, name := range []string{"+", "-", "*", "div", "mod", "<", "="} {
		for _, a := range numbers() {
			for _, b := range numbers() {
				if b == 0 && (name == "div" || name == "mod") {
					continue
				}
				n, fault, ok := num.Do(name, a, b)
				if want := exactly(name, a, b); n != want || fault != 0 || !ok {
					t.Fatalf("Do(%q, %d, %d): %d, %d, %v, want %d", name, a, b, n, fault, ok, want)
				}
			}
		}
	}
}

func TestDoAtTheEdges(t *testing.T) {
	for _, x := range []struct {
		name string
		a, b int64
		want int64
	}{
		{"+", most, 1, least},
		{"+", least, least, 0},
		{"-", least, 1, most},
		{"-", 0, least, least},
		{"*", least, -1, least},
		{"*", most, most, 1},
		{"*", 1 << 32, 1 << 32, 0},
		{"div", 7, 2, 3},
		{"div", -7, 2, -3},
		{"div", 7, -2, -3},
		{"div", -7, -2, 3},
		{"div", 0, -5, 0},
		{"div", least, -1, least},
		{"div", least, 1, least},
		{"mod", 7, 2, 1},
		{"mod", -7, 2, -1},
		{"mod", 7, -2, 1},
		{"mod", -7, -2, -1},
		{"mod", 3, 7, 3},
		{"mod", least, -1, 0},
		{"mod", least, most, -1},
		{"<", 1, 2, 1},
		{"<", 2, 2, 0},
		{"<", 2, 1, 0},
		{"<", least, most, 1},
		{"<", most, least, 0},
		{"<", -1, 0, 1},
		{"=", least, least, 1},
		{"=", least, most, 0},
		{"=", 1, -1, 0},
	} {
		n, fault, ok := num.Do(x.name, x.a, x.b)
		if n != x.want || fault != 0 || !ok {
			t.Errorf("Do(%q, %d, %d): %d, %d, %v, want %d", x.name, x.a, x.b, n, fault, ok, x.want)
		}
	}
}

func TestDoByZero(t *testing.T) {
	for _, name := range []string{"div", "mod"} {
		for _, a := range numbers() {
			n, fault, ok := num.Do(name, a, 0)
			if n != 0 || fault != api.NoDiv || !ok {
				t.Errorf("Do(%q, %d, 0): %d, %d, %v", name, a, n, fault, ok)
			}
		}
	}
}

func TestDoOfNoSuchName(t *testing.T) {
	for _, name := range []string{"", " ", "+ ", " +", "++", "Div", "DIV", "div ", "di", "divmod", "rem", "/", "%", "<=", ">", "==", "<\x00", "\xff", "f+", "f-", "f*", "f/", "f<", "f=", "float", "whole", "seq"} {
		for _, b := range []int64{0, 1} {
			n, fault, ok := num.Do(name, 1, b)
			if n != 0 || fault != 0 || ok {
				t.Errorf("Do(%q, 1, %d): %d, %d, %v", name, b, n, fault, ok)
			}
		}
	}
}

func TestTextIsDecimalAndParsesBack(t *testing.T) {
	for _, n := range numbers() {
		s := num.Text(n)
		if want := big.NewInt(n).String(); s != want {
			t.Errorf("Text(%d): %q, want %q", n, s, want)
		}
		if got, err := num.Parse(s); got != n || err != nil {
			t.Errorf("Parse(%q): %d, %v", s, got, err)
		}
	}
}

func TestParseAtTheEdges(t *testing.T) {
	for _, x := range []struct {
		s string
		n int64
	}{
		{"0", 0},
		{"7", 7},
		{"-7", -7},
		{"10", 10},
		{"-10", -10},
		{"1000000000000000000", 1e18},
		{"9223372036854775807", most},
		{"-9223372036854775807", -most},
		{"-9223372036854775808", least},
	} {
		if n, err := num.Parse(x.s); n != x.n || err != nil {
			t.Errorf("Parse(%q): %d, %v", x.s, n, err)
		}
	}
}

func TestParseRefuses(t *testing.T) {
	l := []string{
		"", "-", "--", "--1", "-+1", "+", "+0", "+1", "1-", "1-2",
		"00", "01", "007", "-0", "-00", "-01", "00000000000000000001",
		" 1", "1 ", "- 1", "1\n", "\t1", "1\x00",
		"9223372036854775808", "-9223372036854775809", "18446744073709551616", "99999999999999999999", "-9999999999999999999", "-99999999999999999999", "100000000000000000000000",
		"a", "1a", "a1", "0x1", "0b1", "0o7", "1_0", "1e3", "1.0", "1.", ".5", "1p0", "1,000",
		"\u0661", "\uff11", "\u22121", "\xff", "1\xff", "nan", "inf",
		strings.Repeat("0", 1<<16), strings.Repeat("9", 1<<16), "-" + strings.Repeat("1", 1<<16),
	}
	for _, s := range l {
		if n, err := num.Parse(s); n != 0 || err != api.ErrNumber {
			t.Errorf("Parse(%.40q): %d, %v", s, n, err)
		}
	}
}

// Every short text is either the Text of a number or refused.
func TestParseOfAllShortTexts(t *testing.T) {
	const letters = "-+019 _a"
	texts := []string{""}
	for first := 0; len(texts[first]) < 4; first++ {
		for _, c := range letters {
			texts = append(texts, texts[first]+string(c))
		}
	}
	for _, s := range texts {
		x, is := new(big.Int).SetString(s, 10)
		is = is && x.String() == s
		n, err := num.Parse(s)
		switch {
		case is && (n != x.Int64() || err != nil):
			t.Errorf("Parse(%q): %d, %v", s, n, err)
		case !is && (n != 0 || err != api.ErrNumber):
			t.Errorf("Parse(%q): %d, %v, want ErrNumber", s, n, err)
		}
	}
}
