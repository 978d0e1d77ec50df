package gres

import (
	"iter"

	"tessel/api"
	"tessel/gint"
	"tessel/zint"
)

func count(m api.G) api.Z {
	norm := gint.Norm(m)
	if zint.Sign(norm) == 0 {
		panic(api.ErrZero)
	}
	return norm
}

// refuseMany refuses a modulus of more residues than are listed.
func refuseMany(m api.G) {
	if zint.Cmp(count(m), zint.From(api.MaxResidues)) > 0 {
		panic(api.ErrLimit)
	}
}

// residues lists all residues by m, in no order of theirs.
func residues(m api.G) iter.Seq[api.G] {
	refuseMany(m)
	// With d, the greatest common divisor of m's parts: the imaginary parts of m's multiples are those that d divides, and two multiples with one imaginary part differ by a multiple of norm / d. So of all numbers that are the same by m a box of that width and of the height d holds just one.
	divisor := zint.Gcd(m.Re, m.Im)
	height, _ := zint.Int(divisor)
	quotient, _ := zint.Exact(gint.Norm(m), divisor)
	width, _ := zint.Int(quotient)
	return func(yield func(api.G) bool) {
		for im := range height {
			for re := range width {
				if !yield(residue(gint.From(re, im), m)) {
					return
				}
			}
		}
	}
}

func order(a, m api.G) int {
	refuseMany(m)
	if !hasInverse(a, m) {
		panic(api.ErrNone)
	}
	base, end := residue(a, m), one(m)
	k := 1
	for product := base; !gint.Equal(product, end); k++ {
		product = residue(gint.Mul(product, base), m)
	}
	return k
}
