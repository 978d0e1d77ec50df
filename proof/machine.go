package proof

import (
	"cmp"
	"math"

	"tessel/api"
)

// Small numbers of the tests are the machine's complex ones, which are exact as long as their parts are whole and below 2^53.

// Whole tells one as the program has it.
func Whole(a complex128) api.G { return G(int64(real(a)), int64(imag(a))) }

// Conj conjugates.
func Conj(a complex128) complex128 { return complex(real(a), -imag(a)) }

// Norm tells the square of the amount.
func Norm(a complex128) float64 { return real(a * Conj(a)) }

// Divides tells whether m divides a. m is not 0.
func Divides(m, a complex128) bool {
	top := a * Conj(m)
	return math.Mod(real(top), Norm(m)) == 0 && math.Mod(imag(top), Norm(m)) == 0
}

// Compare compares by norm, then real part, then imaginary part.
func Compare(a, b complex128) int {
	return cmp.Or(cmp.Compare(Norm(a), Norm(b)), cmp.Compare(real(a), real(b)), cmp.Compare(imag(a), imag(b)))
}

// Square lists all numbers whose parts are at most n in amount.
func Square(n int) []complex128 {
	var list []complex128
	for re := -n; re <= n; re++ {
		for im := -n; im <= n; im++ {
			list = append(list, complex(float64(re), float64(im)))
		}
	}
	return list
}

// Residue tells what is left of a by m, in the half-open square. m is not 0.
func Residue(a, m complex128) complex128 {
	top, n := a*Conj(m), Norm(m)
	return a - complex(halfUp(real(top), n), halfUp(imag(top), n))*m
}

// halfUp tells x / n, rounded to the nearest whole number, and a half up. n is above 0.
func halfUp(x, n float64) float64 { return math.Floor((2*x + n) / (2 * n)) }

// Associate tells a times the unit by which it lies in the first quadrant, of 0: 0.
func Associate(a complex128) complex128 {
	for a != 0 && (real(a) <= 0 || imag(a) < 0) {
		a *= 1i
	}
	return a
}

// Gcd tells the greatest common divisor of numbers, in the first quadrant.
func Gcd(numbers ...complex128) complex128 {
	divisor := complex128(0)
	for _, x := range numbers {
		for x != 0 {
			divisor, x = x, Residue(divisor, x)
		}
	}
	return Associate(divisor)
}

// Machine tells a small number as the machine has it.
func Machine(a api.G) complex128 { return complex(machine(a.Re), machine(a.Im)) }

func machine(a api.Z) float64 {
	amount := 0.0
	for j, digit := range a.Mag {
		amount += math.Ldexp(float64(digit), 32*j)
	}
	if a.Neg {
		return -amount
	}
	return amount
}
