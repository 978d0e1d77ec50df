package proof

import (
	"cmp"
	"math"

	"tessel/api"
)

// Small numbers of the tests are the machine's complex ones, which are exact as long as their parts are whole and below 2^53.

// Whole tells one as the program has it.
func Whole(a complex128) api.G { return G(int64(real(a)), int64(imag(a))) }

// Conj conjugates.
func Conj(a complex128) complex128 { return complex(real(a), -imag(a)) }

// Norm tells the square of the amount.
func Norm(a complex128) float64 { return real(a * Conj(a)) }

// Divides tells whether m divides a. m is not 0.
func Divides(m, a complex128) bool {
	top := a * Conj(m)
	return math.Mod(real(top), Norm(m)) == 0 && math.Mod(imag(top), Norm(m)) == 0
}

// Compare compares by norm, then real part, then imaginary part.
func Compare(a, b complex128) int {
	return cmp.Or(cmp.Compare(Norm(a), Norm(b)), cmp.Compare(real(a), real(b)), cmp.Compare(imag(a), imag(b)))
}

// Square lists all numbers whose parts are at most n in amount.
func Square(n int) []complex128 {
	var list []complex128
	for re := -n; re <= n; re++ {
		for im := -n; im <= n; im++ {
			list = append(list, complex(float64(re), float64(im)))
		}
	}
	return list
}
