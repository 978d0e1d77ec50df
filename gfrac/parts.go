package gfrac

import (
	"tessel/api"
	"tessel/frac"
	"tessel/zint"
)

// part tells a number's real part, or its imaginary one.
type part func(a api.C) api.Q

// both tells what done makes of the real parts, and of the imaginary ones: both, or an error and nothing beside it.
func both[V any](done func(of part) (V, api.Errno)) (re, im V, e api.Errno) {
	var none V
	re, e = done(func(a api.C) api.Q { return a.Re })
	if e != api.OK {
		return none, none, e
	}
	im, e = done(func(a api.C) api.Q { return a.Im })
	if e != api.OK {
		return none, none, e
	}
	return re, im, api.OK
}

// number tells the number whose parts done makes.
func number(done func(of part) (api.Q, api.Errno)) (api.C, api.Errno) {
	re, im, e := both(done)
	return api.C{Re: re, Im: im}, e
}

// low tells a number as it is answered: both parts in lowest terms.
func low(a api.C) (api.C, api.Errno) {
	return number(func(of part) (api.Q, api.Errno) { return frac.Make(of(a).Num, of(a).Den) })
}

// over shows top / den, which need not be in lowest terms. It shares their memory, so it is never answered.
func over(top api.G, den api.Z) api.C {
	return api.C{Re: api.Q{Num: top.Re, Den: den}, Im: api.Q{Num: top.Im, Den: den}}
}

// overOneDen tells a number as a Gaussian integer over a whole number, which is 0 just if one of the number's Dens is.
func overOneDen(a api.C) (top api.G, den api.Z) {
	common := zint.Gcd(a.Re.Den, a.Im.Den)
	// What the other part's Den has ahead of the common divisor. Of two Dens of 0 there is no quotient, and 0 is answered.
	forIm, _ := zint.Exact(a.Re.Den, common)
	forRe, _ := zint.Exact(a.Im.Den, common)
	top = api.G{Re: zint.Mul(a.Re.Num, forRe), Im: zint.Mul(a.Im.Num, forIm)}
	return top, zint.Mul(a.Re.Den, forRe)
}
