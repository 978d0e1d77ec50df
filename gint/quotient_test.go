package gint_test

import (
	"fmt"
	"testing"

	"tessel/api"
	"tessel/gint"
	"tessel/proof"
	"tessel/zint"
)

// long tells a number whose longer part has just so many digits: the lowest or the highest amount of these, or one between.
func long(d *proof.Dice, size int) api.G {
	whole := proof.Power2(32 * (size - 1))
	switch d.Next(3) {
	case 0:
		whole = zint.Add(whole, d.Z(size-1))
	case 1:
		whole = zint.Sub(proof.Power2(32*size), z(int64(1+d.Next(3))))
	}
	return gint.Turn(api.G{Re: whole, Im: d.Z(size - 1)}, d.Next(4))
}

// TestQuotient: the quotient by the numbers' tops is RoundDiv's, wherever a / b lies, also next to the square's sides and corners.
func TestQuotient(t *testing.T) { // P4.4
	d := proof.Dice(12)
	for size := 1; size <= 16; size++ {
		for more := -1; more <= 6; more++ {
			for range 20 {
				half := long(&d, size)
				b := sum(half, half)
				q := g(0, 0)
				if more >= 0 {
					q = long(&d, 1+more)
				}
				place := []api.G{g(1, 0), g(0, 1), g(1, 1), g(-1, 1), g(0, -1), g(-1, -1)}[d.Next(6)]
				a := sum(product(q, b), product(half, place))
				for _, off := range offsets(d.Next(32*size), d.Next(4)) {
					same(t, sum(a, off), b)
					same(t, a, sum(b, off))
				}
				same(t, d.G(size+more+1), b)
			}
		}
	}
}

// TestQuotientCutMost: divisors whose tops are as small, and whose rests as great, as they can be, with long quotients that lie next to a side: here the tops alone mislead most.
func TestQuotientCutMost(t *testing.T) { // P4.4
	for tops := 32; tops <= 32*7; tops += 32 {
		for rest := 32; rest <= 32*3; rest += 32 {
			b := zint.Add(proof.Power2(tops+rest), zint.Sub(proof.Power2(rest), z(1)))
			half, _, _ := zint.FloorDiv(b, z(2))
			for size := 0; size <= 32*5; size += 32 {
				q := zint.Sub(proof.Power2(size), z(1))
				for side := int64(-1); side <= 2; side++ {
					a := zint.Add(zint.Mul(q, b), zint.Add(half, z(side)))
					for k := range 4 {
						same(t, gint.Turn(api.G{Re: a}, k), api.G{Re: b})
						same(t, gint.Turn(api.G{Re: a, Im: a}, k), api.G{Re: b})
						same(t, api.G{Im: a}, gint.Turn(api.G{Re: b}, k))
					}
				}
			}
		}
	}
}

// offsets are steps of 0, of 1, and of one far place.
func offsets(far, turns int) []api.G {
	step := gint.Turn(api.G{Re: proof.Power2(far)}, turns)
	return []api.G{{}, g(1, 0), g(-1, 0), g(0, 1), g(0, -1), step, gint.Neg(step)}
}

// same tells where the quotient isn't RoundDiv's.
func same(t *testing.T, a, b api.G) {
	t.Helper()
	if isZero(b) {
		return
	}
	want, _, _ := gint.RoundDiv(a, b)
	proof.Is(t, fmt.Sprintf("quotient of %s and %s", show(a), show(b)), gint.Quotient(a, b), want)
}
