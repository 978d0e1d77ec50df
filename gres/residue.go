package gres

import (
	"tessel/api"
	"tessel/gint"
	"tessel/zint"
)

// What stands in this file and in list.go throws the errors, which answer catches.

func residue(a, m api.G) api.G {
	_, r, e := gint.RoundDiv(a, m)
	if e != api.OK {
		panic(e)
	}
	return r
}

func one(m api.G) api.G { return residue(gint.From(1, 0), m) }

// power goes through the bits of n from the top one down.
func power(a api.G, n api.Z, m api.G) api.G {
	base, product := residue(a, m), one(m)
	if zint.Sign(n) < 0 {
		panic(api.ErrArg)
	}
	for i := zint.Bits(n) - 1; i >= 0; i-- {
		product = residue(gint.Mul(product, product), m)
		if n.Mag[i/32]>>(i%32)&1 == 1 {
			product = residue(gint.Mul(product, base), m)
		}
	}
	return product
}

func hasInverse(a, m api.G) bool { return gint.IsUnit(gint.Gcd(a, m)) }

func inverse(a, m api.G) api.G {
	// The residue has the same divisors in common with m, and its factors come out short however long a is.
	g, x, _ := gint.Xgcd(residue(a, m), m)
	if !gint.IsUnit(g) {
		panic(api.ErrNone)
	}
	return residue(x, m)
}

func sameAsBoth(a, m, b, n api.G) api.G {
	// Both residues are told ahead of the inverse, for a modulus of 0 is refused ahead of moduli that have divisors in common.
	first, second := residue(a, m), residue(b, n)
	times := residue(gint.Mul(gint.Sub(second, first), inverse(m, n)), n)
	return residue(gint.Add(first, gint.Mul(times, m)), gint.Mul(m, n))
}
