package gsmith_test

import (
	"testing"

	"tessel/api"
	"tessel/ghnf"
	"tessel/gint"
	"tessel/gmat"
	"tessel/gsmith"
	"tessel/proof"
)

func TestOneList(t *testing.T) { // P11.3: for a matrix, its transpose, and times what has a unit for determinant
	d, ok := proof.Dice(5), proof.Must[api.M](t)
	for k := range 120 {
		high, wide := 1+d.Next(5), 1+d.Next(5)
		m := d.M(high, wide, k%4)
		if k%3 == 0 {
			m = drawn(&d, high, wide, min(high, wide), func() api.G { return d.G(1) }, func() api.G { return d.G(1) }).m
		}
		list := proof.Must[[]api.G](t)(gsmith.Factors(m))
		holds(t, m, list)
		u, v := d.Unimodular(high).Whole(), d.Unimodular(wide).Whole()
		for _, other := range []api.M{ok(gmat.Trans(m)), ok(gmat.Mul(u, m)), ok(gmat.Mul(m, v)), ok(gmat.Mul(ok(gmat.Mul(u, m)), v)), ok(ghnf.Form(m))} {
			got, e := gsmith.Factors(other)
			proof.Taken(t, "Factors of "+proof.Told(other)+", made of "+proof.Told(m), got, e, list)
		}
	}
}

func TestProduct(t *testing.T) { // P11.3: its norm is Index
	d, infinite := proof.Dice(6), 0
	for k := range 120 {
		wide := 1 + d.Next(4)
		m := d.M(wide+d.Next(3)-1, wide, k%4)
		index, e := ghnf.Index(m)
		last, f := gsmith.Exponent(m)
		if e != api.OK {
			infinite++
			proof.Refused(t, "Exponent of "+proof.Told(m), last, f, e)
			continue
		}
		product := g(1, 0)
		for _, x := range proof.Must[[]api.G](t)(gsmith.Factors(m)) {
			product = gint.Mul(product, x)
		}
		proof.Is(t, "the norm of all factors of "+proof.Told(m), gint.Norm(product), index)
	}
	if infinite < 10 || infinite > 100 {
		t.Errorf("%d of 120 are infinite", infinite)
	}
}

func TestFirst(t *testing.T) { // P11.3: the greatest common divisor of all numbers; each divides the next one
	d, ok := proof.Dice(7), proof.Must[api.M](t)
	for k := range 120 {
		m := ok(gmat.Scale(d.M(1+d.Next(4), 1+d.Next(4), k%4), d.G(2)))
		divisor := api.G{}
		for _, row := range m {
			for _, x := range row {
				divisor = gint.Gcd(divisor, x)
			}
		}
		list := proof.Must[[]api.G](t)(gsmith.Factors(m))
		if len(list) == 0 {
			proof.Is(t, "the divisor of no factors", divisor, api.G{})
			continue
		}
		proof.Is(t, "the first factor of "+proof.Told(m), list[0], divisor)
		for i, x := range list {
			first, _ := gint.Canon(x)
			proof.Is(t, "a factor of "+proof.Told(m), x, first)
			if _, e := gint.Exact(x, list[max(i-1, 0)]); e != api.OK {
				t.Errorf("Factors of %s: error %d at %d", proof.Told(m), e, i)
			}
		}
	}
}
