package gres_test

import (
	"slices"
	"testing"

	"tessel/api"
	"tessel/gint"
	"tessel/gres"
	"tessel/proof"
)

// rising tells a list's numbers by norm, then real part, then imaginary part.
func rising(list []complex128) []api.G {
	slices.SortFunc(list, proof.Compare)
	var all []api.G
	for _, a := range list {
		all = append(all, whole(a))
	}
	return all
}

// unitsOf lists those residues that make 1 with another one.
func unitsOf(m complex128) []complex128 {
	residues := residuesOf(m)
	var list []complex128
	for _, r := range residues {
		if slices.ContainsFunc(residues, func(x complex128) bool { return proof.Divides(m, r*x-1) }) {
			list = append(list, r)
		}
	}
	return list
}

// limits are moduli of a norm of 4096 and just below, and refusals are moduli just above it and far off.
func limits() []complex128 {
	return []complex128{64, 64i, -64, -64i, 58 + 27i, -27 - 58i, 63 + 11i, 45 - 45i, 63}
}

func refusals() []api.G {
	var list []api.G
	for _, m := range []complex128{64 + 1i, 1 - 64i, -64 - 1i, 56 - 31i, 46 + 45i, 65, -65i, 1<<32 + 1, complex(3, 1<<32), 1 << 16} {
		list = append(list, forms(m)...)
	}
	return append(list, api.G{Re: proof.Power2(64), Im: z(1)}, api.G{Im: proof.Power2(300)}, api.G{Re: proof.Power2(32)})
}

func TestAll(t *testing.T) { // P5.3
	for _, m := range append(moduli(7), limits()...) {
		want := rising(residuesOf(m))
		for k, x := range forms(m) {
			got, e := gres.All(x)
			proof.Taken(t, called("All", x), got, e, want)
			if k == 0 && int(proof.Norm(m)) != len(want) {
				t.Errorf("%s: %d are looked for", called("All", x), len(want))
			}
		}
	}
}

func TestRangeIsLeft(t *testing.T) { // P5.3: the iterator ends where a loop over it does, and begins anew at the next one
	all := gres.Residues(g(6, 2))
	for range 2 {
		for most := range 4 {
			seen := 0
			for range all {
				seen++
				if seen > most {
					break
				}
			}
			proof.Is(t, "how many are seen", seen, most+1)
		}
	}
}

func TestTooManyResidues(t *testing.T) { // P5.3: ErrLimit, ahead of ErrNone
	for _, m := range refusals() {
		list, e := gres.All(m)
		proof.Refused(t, called("All", m), list, e, api.ErrLimit)
		units, e := gres.Units(m)
		proof.Refused(t, called("Units", m), units, e, api.ErrLimit)
		for _, a := range append(proof.GNoughts()[:1], g(1, 0), g(2, 1), m) {
			order, e := gres.Order(a, m)
			proof.Refused(t, called("Order", a, m), order, e, api.ErrLimit)
		}
	}
}

func TestUnits(t *testing.T) { // P5.3
	for _, m := range moduli(6) {
		want := len(unitsOf(m))
		for _, x := range forms(m) {
			got, e := gres.Units(x)
			proof.Taken(t, called("Units", x), got, e, want)
		}
	}
	// Of a power P^n of a prime whose norm is p: p^n - p^(n-1); of numbers without divisors in common the product.
	for _, c := range []struct {
		m    complex128
		want int
	}{
		{64, 2048}, {-64i, 2048}, {63, 72 * 48}, {58 + 27i, 4092}, {63 + 11i, 4 * 408}, {45 - 45i, 72 * 4 * 4}, {60, 8 * 8 * 4 * 4}, {61, 60 * 60}, {59, 3480},
	} {
		got, e := gres.Units(whole(c.m))
		proof.Taken(t, called("Units", whole(c.m)), got, e, c.want)
	}
}

// orderOf tells the least k from 1 on for which a^k is the same as 1 by m, and 0 where none is.
func orderOf(residues []complex128, a, m complex128) int {
	power := residueOf(residues, a, m)
	for k := 1; k <= len(residues); k++ {
		if proof.Divides(m, power-1) {
			return k
		}
		power = residueOf(residues, power*a, m)
	}
	return 0
}

func TestOrder(t *testing.T) { // P5.3
	for _, m := range moduli(4) {
		residues := residuesOf(m)
		for _, a := range proof.Square(4) {
			want := orderOf(residues, a, m)
			for k, x := range forms(a) {
				y := forms(m)[3-k]
				got, e := gres.Order(x, y)
				if want == 0 {
					proof.Refused(t, called("Order", x, y), got, e, api.ErrNone)
				} else {
					proof.Taken(t, called("Order", x, y), got, e, want)
				}
			}
		}
	}
}

func TestOrderEdges(t *testing.T) { // P5.3
	for k := range 4 {
		unit := gint.Turn(g(1, 0), k)
		for _, a := range append(proof.GNoughts(), g(7, 0), unit, api.G{Im: proof.Power2(100)}) {
			got, e := gres.Order(a, unit)
			proof.Taken(t, called("Order", a, unit), got, e, 1)
		}
		got, e := gres.Order(unit, g(5, 0))
		proof.Taken(t, called("Order", unit, g(5, 0)), got, e, []int{1, 4, 2, 4}[k])
		got, e = gres.Order(unit, g(2, 0)) // -1 is the same as 1 here
		proof.Taken(t, called("Order", unit, g(2, 0)), got, e, []int{1, 2, 1, 2}[k])
	}
	for _, a := range append(proof.GNoughts(), g(1, 1), g(64, 0), g(2, 0), g(-3, 5)) {
		got, e := gres.Order(a, g(64, 0))
		proof.Refused(t, called("Order", a, g(64, 0)), got, e, api.ErrNone)
	}
	most := 0
	for k := range 60 {
		got, e := gres.Order(g(int64(k+1), 0), g(58, 27)) // a prime of the norm 4093
		if e != api.OK || 4092%got != 0 {
			t.Errorf("Order(%d, 58+27i): %d, error %d", k+1, got, e)
		}
		most = max(most, got)
	}
	if most != 4092 {
		t.Errorf("no order is 4092: the greatest is %d", most)
	}
	long := gint.Add(api.G{Re: proof.Power2(1000)}, g(2, 0)) // 2^1000 is the same as 1 by 3, so this is the same as 0
	got, e := gres.Order(long, g(3, 0))
	proof.Refused(t, "Order(2^1000 + 2, 3)", got, e, api.ErrNone)
	got, e = gres.Order(gint.Add(long, g(0, 1)), g(3, 0))
	proof.Taken(t, "Order(2^1000 + 2 + i, 3)", got, e, 4)
}
