package frac

import (
	"math"

	"tessel/api"
	"tessel/zint"
)

// How a float64 lies in its bits: the sign at the top, the exponent, the fraction.
const (
	fractionBits = 52
	exponentMask = 1<<11 - 1
	signShift    = 63
	leastPower   = -1074
)

// Of makes a float's.
func Of(x float64) (api.Q, api.Errno) {
	bits := math.Float64bits(x)
	exponent := int(bits >> fractionBits & exponentMask)
	if exponent == exponentMask {
		return api.Q{}, api.ErrArg
	}
	amount := int64(bits & (1<<fractionBits - 1))
	if exponent > 0 {
		// Of all but the subnormal floats the top bit is not written. Exponents 0 and 1 stand for one power of two.
		amount |= 1 << fractionBits
		exponent--
	}
	if bits>>signShift == 1 {
		amount = -amount
	}
	return scaled(zint.From(amount), leastPower+exponent)
}

// scaled tells a 2^n.
func scaled(a api.Z, n int) (api.Q, api.Errno) {
	two := zint.From(2)
	if n < 0 {
		return Make(a, power(two, -n))
	}
	return Make(zint.Mul(a, power(two, n)), zint.From(1))
}
