package gint

import (
	"tessel/api"
	"tessel/zint"
)

// Turn multiplies by a power of i.
func Turn(a api.G, k int) api.G {
	turned := api.G{Re: zint.Add(a.Re, api.Z{}), Im: zint.Add(a.Im, api.Z{})}
	// i^4 is 1, and below 0 too the two lowest bits of k tell how far it is above a multiple of 4.
	switch k & 3 {
	case 3:
		turned = timesI(turned)
		fallthrough
	case 2:
		turned = timesI(turned)
		fallthrough
	case 1:
		turned = timesI(turned)
	}
	return turned
}

// timesI tells i times a number. It keeps the real part's memory, so no number that was handed in may come here.
func timesI(a api.G) api.G { return api.G{Re: zint.Neg(a.Im), Im: a.Re} }

// Canon tells the associate in the first quadrant, and how often i makes it of a.
func Canon(a api.G) (api.G, int) {
	k := quarters(zint.Sign(a.Re), zint.Sign(a.Im))
	return Turn(a, k), k
}

// quarters tells how often a number must be turned by i to lie in the first quadrant, by the signs of its parts: 0 need not be turned.
func quarters(re, im int) int {
	switch {
	case im < 0 && re >= 0:
		return 1
	case re < 0 && im <= 0:
		return 2
	case im > 0 && re <= 0:
		return 3
	}
	return 0
}
