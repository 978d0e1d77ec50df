package gres_test

import (
	"testing"

	"tessel/api"
	"tessel/gint"
	"tessel/gres"
	"tessel/proof"
)

func TestResiduesGoAlong(t *testing.T) { // P5.4: with sums and products
	d := proof.Dice(6)
	for range 300 {
		a, b, m := d.G(8), d.G(8), d.GNotZero(1+d.Next(6))
		x, _ := gres.Reduce(a, m)
		y, _ := gres.Reduce(b, m)
		sum, e := gres.Reduce(gint.Add(a, b), m)
		isResidue(t, called("a sum", a, b, m), sum, e, gint.Add(x, y), m)
		product, _ := gres.Mul(a, b, m)
		again, e := gres.Mul(x, y, m)
		proof.Taken(t, called("a product", a, b, m), again, e, product)
		plain, e := gres.Reduce(gint.Mul(a, b), m)
		proof.Taken(t, called("a product", a, b, m), plain, e, product)
	}
}

func TestAllAreResidues(t *testing.T) { // P5.3, P5.4: as many as Count tells, each its own residue, no two the same
	for _, m := range []complex128{1, 1 + 1i, 2i, -3, 4 + 2i, -5 + 10i, 7 - 7i, 12, 3 + 30i, -20 - 15i} {
		list, e := gres.All(whole(m))
		count, _ := gres.Count(whole(m))
		proof.Taken(t, called("Count", whole(m)), count, e, z(int64(len(list))))
		for i, r := range list {
			again, e := gres.Reduce(r, whole(m))
			proof.Taken(t, called("Reduce", r, whole(m)), again, e, r)
			if i > 0 && gint.Cmp(list[i-1], r) >= 0 {
				t.Errorf("%s does not rise at %d", called("All", whole(m)), i)
			}
		}
	}
}

func TestOrdersDivideUnits(t *testing.T) { // P5.4
	for _, m := range moduli(5) {
		modulus := whole(m)
		list, _ := gres.All(modulus)
		units, _ := gres.Units(modulus)
		one, _ := gres.Reduce(g(1, 0), modulus)
		found := 0
		for _, r := range list {
			x, e := gres.Inverse(r, modulus)
			order, refused := gres.Order(r, modulus)
			if e != refused {
				t.Errorf("%s: errors %d and %d", called("Inverse and Order", r, modulus), e, refused)
			}
			if e != api.OK {
				continue
			}
			found++
			product, e := gres.Mul(r, x, modulus)
			proof.Taken(t, called("Mul of a number and its inverse", r, modulus), product, e, one)
			power, e := gres.Pow(r, z(int64(units)), modulus)
			proof.Taken(t, called("Pow by all units", r, modulus), power, e, one)
			before, e := gres.Pow(r, z(int64(order-1)), modulus)
			proof.Taken(t, called("Pow by one less than the order", r, modulus), before, e, x)
			if units%order != 0 {
				t.Errorf("%s: %d does not divide %d", called("Order", r, modulus), order, units)
			}
		}
		if found != units {
			t.Errorf("%s: %d, and %d have an inverse", called("Units", modulus), units, found)
		}
	}
}

func TestPrimeModuli(t *testing.T) { // P5.4: each residue but 0 has an inverse
	for _, m := range []complex128{1 + 1i, 2 + 1i, 1 - 2i, 3, 3i, 7, -11, 5 + 6i, -20 + 1i, 4 - 15i} {
		list, _ := gres.All(whole(m))
		for i, r := range list {
			x, e := gres.Inverse(r, whole(m))
			if i == 0 {
				proof.Refused(t, called("Inverse of 0", whole(m)), x, e, api.ErrNone)
				continue
			}
			isResidue(t, called("Inverse", r, whole(m)), x, e, x, whole(m))
			if !sameBy(gint.Mul(x, r), g(1, 0), whole(m)) {
				t.Errorf("%s: %s", called("Inverse", r, whole(m)), gint.Text(x))
			}
		}
		units, e := gres.Units(whole(m))
		proof.Taken(t, called("Units", whole(m)), units, e, len(list)-1)
	}
}
