package frac

import (
	"math/bits"

	"tessel/api"
	"tessel/zint"
)

// Pow tells a power.
func Pow(a api.Q, n int) (api.Q, api.Errno) {
	low, e := Make(a.Num, a.Den)
	if e != api.OK {
		return api.Q{}, e
	}
	if n < 0 {
		return api.Q{}, api.ErrArg
	}
	if isTooHigh(low.Num, n) || isTooHigh(low.Den, n) {
		return api.Q{}, api.ErrLimit
	}
	// Powers of numbers without a common divisor have none either.
	return api.Q{Num: power(low.Num, n), Den: power(low.Den, n)}, api.OK
}

// isTooHigh tells whether a^n is beyond the limit. Of 0, 1 and -1 no power is.
func isTooHigh(a api.Z, n int) bool {
	size := zint.Bits(a)
	return size > 1 && n > api.MaxShift/size
}

// power tells a^n by squares: n may be as great as it will where a is 0, 1 or -1.
func power(a api.Z, n int) api.Z {
	product := zint.From(1)
	for i := bits.Len(uint(n)) - 1; i >= 0; i-- {
		product = zint.Mul(product, product)
		if n>>i&1 == 1 {
			product = zint.Mul(product, a)
		}
	}
	return product
}
