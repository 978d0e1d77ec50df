package gint

import (
	"tessel/api"
	"tessel/zint"
)

// overNorm tells the numbers whose quotient is a / b, the divisor being a whole number: 0 just if b is 0.
func overNorm(a, b api.G) (top api.G, bottom api.Z) { return Mul(a, Conj(b)), Norm(b) }

// RoundDiv divides, rounding into the half-open square.
func RoundDiv(a, b api.G) (q, r api.G, e api.Errno) {
	top, bottom := overNorm(a, b)
	re, _, e := zint.RoundDiv(top.Re, bottom)
	if e != api.OK {
		return api.G{}, api.G{}, e
	}
	im, _, _ := zint.RoundDiv(top.Im, bottom)
	q = api.G{Re: re, Im: im}
	return q, Sub(a, Mul(q, b)), api.OK
}

// Exact divides without a rest.
func Exact(a, b api.G) (api.G, api.Errno) {
	top, bottom := overNorm(a, b)
	re, e := zint.Exact(top.Re, bottom)
	if e != api.OK {
		return api.G{}, e
	}
	im, e := zint.Exact(top.Im, bottom)
	if e != api.OK {
		return api.G{}, e
	}
	return api.G{Re: re, Im: im}, api.OK
}
