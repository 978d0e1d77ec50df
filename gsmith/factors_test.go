package gsmith_test

import (
	"testing"

	"tessel/api"
	"tessel/proof"
)

func TestFactors(t *testing.T) { // P11.1, P11.2: of small matrices: as their determinants tell
	ranks := map[int]int{}
	for _, list := range [][]rows{proof.Samples(), proof.Squares(), proof.Tiny(), proof.Flags()} {
		for _, a := range list {
			want := factors(a)
			ranks[len(want)]++
			for _, m := range a.Forms() {
				holds(t, m, want)
			}
		}
	}
	for rank := range 6 {
		if ranks[rank] < 10 {
			t.Errorf("only %d of the rank %d", ranks[rank], rank)
		}
	}
}

func TestPairs(t *testing.T) { // P11.1: of numbers that don't divide one another, or are not in the first quadrant
	square := proof.Square(3)
	for _, x := range square {
		for _, y := range square {
			a := rows{{x, 0}, {0, y}}
			holds(t, a.Whole(), factors(a))
		}
	}
	d := proof.Dice(1)
	for range 300 {
		a := proof.Made(4, 4+d.Next(2), func(i, j int) complex128 {
			if i != j {
				return 0
			}
			return d.Small(9)
		})
		holds(t, a.Whole(), factors(a))
		holds(t, a.Turned().Whole(), factors(a))
	}
}

// kinds tell what known matrices are made of: numbers for the factors, and for the steps that mix rows and columns.
func kinds(d *proof.Dice) [][2]func() api.G {
	unit := func() api.G { return proof.Whole(d.Small(1)) }
	small := func() api.G { return proof.Whole(d.Small(3)) }
	long := func() api.G { return d.G(3) }
	return [][2]func() api.G{{unit, unit}, {unit, small}, {small, small}, {small, long}, {long, small}, {long, long}}
}

func TestKnownFactors(t *testing.T) { // P11.1, P11.2: of matrices made of their factors
	d := proof.Dice(2)
	for _, kind := range kinds(&d) {
		for high := 1; high <= 6; high++ {
			for wide := 1; wide <= 6; wide++ {
				k := drawn(&d, high, wide, d.Next(min(high, wide)+1), kind[0], kind[1])
				holds(t, k.m, k.factors)
				k = drawn(&d, high, wide, min(high, wide), kind[0], kind[1])
				holds(t, k.m, k.factors)
			}
		}
	}
}

func TestManyPasses(t *testing.T) { // P11.1: of powers of one prime above the diagonal: rows and columns undo one another many times
	d, powers := proof.Dice(3), []complex128{1}
	for k := range 11 {
		powers = append(powers, powers[k]*(1+1i))
	}
	for n := 2; n <= 5; n++ {
		for k := range 60 {
			a := proof.Made(n, n, func(i, j int) complex128 {
				switch {
				case j < i:
					return 0
				case k%2 == 0:
					return powers[d.Next(len(powers))]
				}
				return powers[(n*n-i*n-j)%len(powers)]
			})
			holds(t, a.Whole(), factors(a))
		}
	}
}
