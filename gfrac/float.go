package gfrac

import (
	"math"

	"tessel/api"
	"tessel/frac"
)

// How the exponent lies in a float64's bits. All its bits are set just in what is not finite.
const (
	fractionBits = 52
	exponentMask = 1<<11 - 1
)

func isFinite(x float64) bool {
	return math.Float64bits(x)>>fractionBits&exponentMask != exponentMask
}

// OfFloat makes a complex float's.
func OfFloat(z complex128) (api.C, api.Errno) {
	if !isFinite(real(z)) || !isFinite(imag(z)) {
		return api.C{}, api.ErrArg
	}
	// Of what is finite frac refuses nothing.
	re, _ := frac.Of(real(z))
	im, _ := frac.Of(imag(z))
	return api.C{Re: re, Im: im}, api.OK
}
