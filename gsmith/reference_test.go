package gsmith_test

import (
	"testing"

	"tessel/api"
	"tessel/ghnf"
	"tessel/gint"
	"tessel/gmat"
	"tessel/gsmith"
	"tessel/proof"
)

type rows = proof.Rows

func g(re, im int64) api.G { return proof.G(re, im) }

// diagonal tells the matrix that has these numbers on its diagonal.
func diagonal(high, wide int, numbers ...api.G) api.M {
	m := proof.Blank(high, wide)
	for i, x := range numbers {
		m[i][i] = x
	}
	return m
}

// width tells how many columns a matrix has.
func width(m api.M) int {
	if len(m) == 0 {
		return 0
	}
	return len(m[0])
}

// factors tells the invariant factors by the document's words: by the divisors of all determinants of k rows and columns.
func factors(a rows) []api.G {
	list, last := []api.G{}, complex128(1)
	for k := 1; k <= a.Rank(); k++ {
		divisor := proof.Gcd(a.Dets(k)...)
		top := divisor * proof.Conj(last)
		norm := proof.Norm(last)
		list = append(list, proof.Whole(proof.Associate(complex(real(top)/norm, imag(top)/norm))))
		last = divisor
	}
	return list
}

// holds tells where the calls of a matrix are not what its factors tell.
func holds(t *testing.T, m api.M, factors []api.G) {
	t.Helper()
	what := " of " + proof.Told(m)
	list, e := gsmith.Factors(m)
	proof.Taken(t, "Factors"+what, list, e, factors)
	last, e := gsmith.Exponent(m)
	switch {
	case len(factors) < width(m):
		proof.Refused(t, "Exponent"+what, last, e, api.ErrNone)
	case len(factors) == 0:
		proof.Taken(t, "Exponent"+what, last, e, g(1, 0))
	default:
		proof.Taken(t, "Exponent"+what, last, e, factors[len(factors)-1])
	}
	u, d, v, e := gsmith.Smith(m)
	proof.Taken(t, "Smith"+what+": d", d, e, diagonal(len(m), width(m), factors...))
	isUnimodular(t, "Smith"+what+": u", u, len(m))
	isUnimodular(t, "Smith"+what+": v", v, width(m))
	ok := proof.Must[api.M](t)
	proof.Is(t, "Smith"+what+": u m v", ok(gmat.Mul(ok(gmat.Mul(u, m)), v)), d)
}

// isUnimodular tells where a matrix has not n rows and columns, no unit for determinant, or numbers that are not as they must be answered. (Index is its determinant's norm.)
func isUnimodular(t *testing.T, what string, m api.M, n int) {
	t.Helper()
	index, e := ghnf.Index(m)
	if e != api.OK || len(m) != n || width(m) != n || !proof.Alike(index, proof.Z(1)) || !proof.Alike(m, proof.Canon(m)) {
		t.Errorf("%s: %s: its index: %v, error %d", what, proof.Told(m), index, e)
	}
}

// known is a matrix whose invariant factors were there ahead of it.
type known struct {
	m       api.M
	factors []api.G
}

// drawn tells one of this size and rank. number tells what its factors are made of, steps how rows and columns are mixed.
func drawn(d *proof.Dice, high, wide, rank int, number, steps func() api.G) known {
	var k known
	last := g(1, 0)
	for len(k.factors) < rank {
		next, _ := gint.Canon(gint.Mul(last, number()))
		if !gint.Equal(next, api.G{}) {
			last = next
			k.factors = append(k.factors, last)
		}
	}
	turned, _ := gmat.Trans(d.Mixed(diagonal(high, wide, k.factors...), steps))
	k.m, _ = gmat.Trans(d.Mixed(turned, steps))
	return k
}
