package gint

import (
	"tessel/api"
	"tessel/zint"
)

// topDigits: of so many digits of the divisor a quotient is guessed.
const topDigits = 5

// quotient tells q of RoundDiv(a, b), b not being 0. In a row of divisions the quotients are short, and the tops of long numbers tell nearly all of them, without the long products that RoundDiv makes.
func quotient(a, b api.G) api.G {
	size := digits(b)
	if cut := size - topDigits; cut > 0 && digits(a) <= size+1 {
		divisor := top(b, cut)
		q, r, _ := RoundDiv(top(a, cut), divisor)
		if isFarInside(r, divisor) {
			return q
		}
	}
	q, _, _ := RoundDiv(a, b)
	return q
}

// digits tells how many digits the longer part has.
func digits(a api.G) int { return (max(zint.Bits(a.Re), zint.Bits(a.Im)) + 31) / 32 }

// top shows a number without its parts' lowest digits. It shares a's memory, so it is never answered.
func top(a api.G, cut int) api.G { return api.G{Re: topOf(a.Re, cut), Im: topOf(a.Im, cut)} }

func topOf(a api.Z, cut int) api.Z {
	return api.Z{Neg: a.Neg, Mag: a.Mag[min(cut, len(a.Mag)):]}
}

// isFarInside tells whether r / b lies in the square so far from its sides that what was cut off of both numbers can't have led past one. By that a quotient changes by less than 2^-60: what was cut off of a part is less than 1, the divisor at least 2^128, the dividend at most 2^65 times as great. The square is made narrower by more than 2^-34.
func isFarInside(r, b api.G) bool {
	place, side := overNorm(r, b)
	side = zint.Sub(side, topOf(side, 1))
	for _, part := range []api.Z{place.Re, place.Im} {
		if zint.Cmp(zint.Abs(zint.Add(part, part)), side) >= 0 {
			return false
		}
	}
	return true
}
