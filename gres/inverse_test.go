package gres_test

import (
	"fmt"
	"testing"

	"tessel/api"
	"tessel/gint"
	"tessel/gres"
	"tessel/proof"
)

func TestInverseAgainstMachine(t *testing.T) { // P5.2, P5.4: there is none just if no residue makes 1
	for _, m := range moduli(5) {
		residues := residuesOf(m)
		for _, a := range proof.Square(5) {
			want, ok := pick(residues, func(x complex128) bool { return proof.Divides(m, a*x-1) })
			for k, x := range forms(a) {
				y := forms(m)[3-k]
				got, e := gres.Inverse(x, y)
				if ok {
					proof.Taken(t, called("Inverse", x, y), got, e, whole(want))
				} else {
					proof.Refused(t, called("Inverse", x, y), got, e, api.ErrNone)
				}
			}
		}
	}
}

func TestInverseEdges(t *testing.T) { // P5.2
	units := []api.G{g(1, 0), g(0, 1), g(-1, 0), g(0, -1)}
	for k, m := range units {
		for _, a := range append(proof.GNoughts(), g(1, 0), g(4, 0), g(-7, 12), api.G{Re: proof.Power2(200)}) {
			got, e := gres.Inverse(a, m)
			proof.Taken(t, called("Inverse", a, m), got, e, g(0, 0))
		}
		got, e := gres.Inverse(m, g(5, 0)) // of i^k: i^-k
		proof.Taken(t, called("Inverse", m, g(5, 0)), got, e, gint.Turn(g(1, 0), -k))
	}
	for _, m := range []api.G{g(2, 0), g(1, 1), g(-5, 0), {Im: proof.Power2(90)}} {
		for _, a := range append(proof.GNoughts(), m, gint.Neg(m), gint.Mul(m, g(3, -7))) {
			got, e := gres.Inverse(a, m)
			proof.Refused(t, called("Inverse", a, m), got, e, api.ErrNone)
		}
	}
}

func TestInverseLong(t *testing.T) { // P5.2, P5.4
	d := proof.Dice(4)
	taken, refused := 0, 0
	for range 400 {
		a, m := d.G(10), d.GNotZero(1+d.Next(8))
		what := called("Inverse", a, m)
		got, e := gres.Inverse(a, m)
		if h := gint.Gcd(a, m); !gint.IsUnit(h) {
			refused++
			proof.Refused(t, what, got, e, api.ErrNone)
			continue
		}
		taken++
		isResidue(t, what, got, e, got, m)
		if !sameBy(gint.Mul(a, got), g(1, 0), m) {
			t.Errorf("%s: %s does not make 1", what, gint.Text(got))
		}
		other, e := gres.Inverse(gint.Add(a, gint.Mul(m, d.G(3))), m)
		proof.Taken(t, what+" and a multiple of the modulus", other, e, got)
		back, e := gres.Inverse(got, m)
		isResidue(t, what+", and back", back, e, a, m)
	}
	if min(taken, refused) < 50 {
		t.Errorf("%d have an inverse, %d have none", taken, refused)
	}
}

func TestCrtAgainstMachine(t *testing.T) { // P5.2
	for _, m := range moduli(2) {
		for _, n := range moduli(2) {
			residues := residuesOf(m * n)
			for k, a := range []complex128{0, 1, -3 + 2i, 5i, 4 - 1i} {
				for l, b := range []complex128{0, 1, 2 + 1i, -4i} {
					// Where there are common divisors, two or none or more of the residues are the same as both; but of one alone it's never so.
					want, ok := pick(residues, func(r complex128) bool { return proof.Divides(m, r-a) && proof.Divides(n, r-b) })
					what := fmt.Sprintf("Crt(%v, %v, %v, %v)", a, m, b, n)
					got, e := gres.Crt(forms(a)[k%4], forms(m)[l], forms(b)[3-l], forms(n)[k%4])
					if ok {
						proof.Taken(t, what, got, e, whole(want))
					} else {
						proof.Refused(t, what, got, e, api.ErrNone)
					}
				}
			}
		}
	}
}

func TestCrtLong(t *testing.T) { // P5.2
	d := proof.Dice(5)
	taken, refused := 0, 0
	for range 400 {
		a, m, b, n := d.G(9), d.GNotZero(1+d.Next(6)), d.G(9), d.GNotZero(1+d.Next(6))
		what := called("Crt", a, m, b, n)
		got, e := gres.Crt(a, m, b, n)
		if h := gint.Gcd(m, n); !gint.IsUnit(h) {
			refused++
			proof.Refused(t, what, got, e, api.ErrNone)
			got, e = gres.Crt(a, m, a, n) // there is one here: it's refused all the same
			proof.Refused(t, called("Crt", a, m, a, n), got, e, api.ErrNone)
			continue
		}
		taken++
		isResidue(t, what, got, e, got, gint.Mul(m, n))
		if !sameBy(got, a, m) || !sameBy(got, b, n) {
			t.Errorf("%s: %s is not the same as both", what, gint.Text(got))
		}
		other, e := gres.Crt(b, n, a, m)
		proof.Taken(t, what+", turned round", other, e, got)
		one, e := gres.Crt(a, m, a, n)
		isResidue(t, called("Crt", a, m, a, n), one, e, a, gint.Mul(m, n))
	}
	if min(taken, refused) < 50 {
		t.Errorf("%d are taken, %d refused", taken, refused)
	}
}

func TestCrtEdges(t *testing.T) { // P5.2
	for k := range 4 {
		unit := gint.Turn(g(1, 0), k)
		for l := range 4 {
			got, e := gres.Crt(g(5, 7), unit, g(-2, 1), gint.Turn(g(1, 0), l))
			proof.Taken(t, "Crt by two units", got, e, g(0, 0))
		}
		got, e := gres.Crt(g(7, 0), unit, g(2, 0), g(3, 0))
		isResidue(t, called("Crt by a unit", unit), got, e, g(2, 0), g(3, 0))
		got, e = gres.Crt(g(7, 3), g(2, 0), g(100, -5), unit)
		isResidue(t, called("Crt by a unit", unit), got, e, g(7, 3), gint.Mul(g(2, 0), unit))
	}
	for _, c := range [][2]api.G{{g(2, 0), g(1, 1)}, {g(3, 0), g(3, 0)}, {g(3, 0), g(0, -3)}, {g(5, 0), g(2, -1)}, {g(5, 0), g(1, -2)}} {
		for _, a := range []api.G{{}, g(1, 0)} {
			got, e := gres.Crt(a, c[0], g(0, 0), c[1])
			proof.Refused(t, called("Crt", a, c[0], api.G{}, c[1]), got, e, api.ErrNone)
		}
	}
	got, e := gres.Crt(g(1, 0), g(2, 1), g(0, 0), g(2, -1)) // a prime and its conjugate have no divisor in common
	proof.Taken(t, "Crt(1, 2+i, 0, 2-i)", got, e, g(-2, 1))
}
