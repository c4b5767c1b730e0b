package flo

import (
	"math"
	"math/bits"
	"strconv"
	"strings"

	"gristmill/api"
)

// How the bits of a float are laid out: the sign, the exponent, the fraction.
const (
	fracBits = 52
	fracMask = 1<<fracBits - 1
	expMask  = 1<<11 - 1
	leastExp = -1074 // of 2, at the last bit of the least floats
)

// maxText is the length of the longest Text: a sign, 16 digits, p, and an exponent of 5 bytes.
const maxText = 23

// Text is the float, exactly: an odd number times a power of 2.
func Text(a uint64) string {
	x := math.Float64frombits(a)
	switch {
	case math.IsNaN(x):
		return "nan"
	case math.IsInf(x, 1):
		return "inf"
	case math.IsInf(x, -1):
		return "-inf"
	}
	sign := ""
	if math.Signbit(x) {
		sign = "-"
	}
	m, e := oddAndPower(a)
	return sign + strconv.FormatUint(m, 10) + "p" + strconv.Itoa(e)
}

// oddAndPower takes a finite float apart, its sign left out; both are 0 of a zero.
func oddAndPower(a uint64) (uint64, int) {
	m, e := a&fracMask, int(a>>fracBits&expMask)
	if e == 0 {
		e = 1 // the least floats stand as those of exponent 1 do, but without the bit that is not written
	} else {
		m |= 1 << fracBits
	}
	if m == 0 {
		return 0, 0
	}
	zeros := bits.TrailingZeros64(m)
	return m >> zeros, leastExp + e - 1 + zeros
}

// Parse is the float whose Text is s; ErrNumber: there is none.
func Parse(s string) (uint64, error) {
	a, ok := guess(s)
	if !ok || Text(a) != s {
		return 0, api.ErrNumber
	}
	return a, nil
}

// guess reads more than Text writes (numbers that are even, rounded or too great, zeros and signs ahead), as Parse holds what it answers against s; of a Text it answers just that float.
func guess(s string) (uint64, bool) {
	switch s {
	case "nan":
		return NaN, true
	case "inf":
		return math.Float64bits(math.Inf(1)), true
	case "-inf":
		return math.Float64bits(math.Inf(-1)), true
	}
	if len(s) > maxText {
		return 0, false // strconv would copy it into its error, however long it is
	}
	s, minus := strings.CutPrefix(s, "-")
	odd, power, _ := strings.Cut(s, "p")
	m, err := strconv.ParseUint(odd, 10, fracBits+1)
	if err != nil {
		return 0, false
	}
	e, err := strconv.ParseInt(power, 10, 16)
	if err != nil {
		return 0, false
	}
	x := math.Ldexp(float64(m), int(e))
	if minus {
		x = -x
	}
	return math.Float64bits(x), true
}
