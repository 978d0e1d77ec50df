package gprime_test

import (
	"testing"

	"tessel/api"
	"tessel/gint"
	"tessel/gprime"
	"tessel/proof"
)

// power is a prime of the machine's numbers, so many times.
type power struct {
	prime complex128
	n     int
}

func powers(list []power) []gprime.Power {
	var all []gprime.Power
	for _, p := range list {
		all = append(all, gprime.Power{P: whole(p.prime), N: p.n})
	}
	return all
}

func TestFactorByProducts(t *testing.T) { // P6.2
	primes := primesByProducts(1 << 14)
	for _, a := range proof.Square(90) {
		if a != 0 {
			factored(t, whole(a), func(p api.G) bool { return primes[machine(p)] })
		}
	}
}

func TestFactorTable(t *testing.T) { // P6.2
	for _, c := range []struct {
		a    complex128
		k    int
		list []power
	}{
		{1, 0, nil}, {1i, 1, nil}, {-1, 2, nil}, {-1i, 3, nil},
		{1 + 1i, 0, []power{{1 + 1i, 1}}}, {-1 + 1i, 1, []power{{1 + 1i, 1}}}, {-1 - 1i, 2, []power{{1 + 1i, 1}}}, {1 - 1i, 3, []power{{1 + 1i, 1}}},
		{3, 0, []power{{3, 1}}}, {3i, 1, []power{{3, 1}}}, {-3, 2, []power{{3, 1}}}, {-3i, 3, []power{{3, 1}}},
		{2 + 1i, 0, []power{{2 + 1i, 1}}}, {1 + 2i, 0, []power{{1 + 2i, 1}}}, {2 - 1i, 3, []power{{1 + 2i, 1}}}, {1 - 2i, 3, []power{{2 + 1i, 1}}},
		{2, 3, []power{{1 + 1i, 2}}}, {-2, 1, []power{{1 + 1i, 2}}}, {5, 3, []power{{1 + 2i, 1}, {2 + 1i, 1}}},
		{3 + 1i, 3, []power{{1 + 1i, 1}, {1 + 2i, 1}}}, {7 - 24i, 2, []power{{2 + 1i, 4}}}, {90, 2, []power{{1 + 1i, 2}, {1 + 2i, 1}, {2 + 1i, 1}, {3, 2}}},
		{59049, 0, []power{{3, 10}}}, {32768 + 32768i, 1, []power{{1 + 1i, 31}}}, {65519, 0, []power{{65519, 1}}}, {-65519i, 3, []power{{65519, 1}}},
		{65521, 3, []power{{89 + 240i, 1}, {240 + 89i, 1}}}, {15625, 2, []power{{1 + 2i, 6}, {2 + 1i, 6}}}, {65535i, 2, []power{{1 + 2i, 1}, {2 + 1i, 1}, {3, 1}, {1 + 4i, 1}, {4 + 1i, 1}, {1 + 16i, 1}, {16 + 1i, 1}}},
	} {
		for _, form := range proof.Forms(whole(c.a)) {
			k, list, e := gprime.Factor(form)
			proof.Taken(t, called("Factor", c.a)+": k", k, e, c.k)
			proof.Taken(t, called("Factor", c.a), parts(list), e, parts(powers(c.list)))
		}
	}
}

func TestFactorLarge(t *testing.T) { // P6.2, P6.5
	d := proof.Dice(2)
	for bits := 1; bits <= 16; bits++ {
		for range 120 {
			factored(t, whole(within(&d, bits)), isTold)
		}
	}
}

func TestFactorZero(t *testing.T) { // P6.2
	for _, a := range proof.GNoughts() {
		k, list, e := gprime.Factor(a)
		proof.Refused(t, "Factor(0): k", k, e, api.ErrZero)
		proof.Refused(t, "Factor(0)", parts(list), e, api.ErrZero)
	}
}

func TestFactorsOfProducts(t *testing.T) { // P6.5: those of both, their counts added; and if a prime divides the product, it divides one of both
	d := proof.Dice(3)
	for range 400 {
		a, b := within(&d, 7), within(&d, 7)
		counts := map[complex128]int{}
		for _, x := range []complex128{a, b} {
			for _, p := range factored(t, whole(x), isTold) {
				counts[machine(p.P)] += p.N
			}
		}
		both := factored(t, whole(a*b), isTold)
		for _, p := range both {
			prime := machine(p.P)
			if counts[prime] != p.N {
				t.Errorf("%v times %v: %v comes %d times, in both %d times", a, b, prime, p.N, counts[prime])
			}
			if !proof.Divides(prime, a) && !proof.Divides(prime, b) {
				t.Errorf("%v times %v: %v divides none of both", a, b, prime)
			}
		}
		if len(both) != len(counts) {
			t.Errorf("%v times %v: %d factors, those of both are %d", a, b, len(both), len(counts))
		}
	}
}

func TestFactorsTurn(t *testing.T) { // P6.2: of all associates the factors are the same, and k goes round
	d := proof.Dice(4)
	for range 200 {
		a := within(&d, 15)
		k, list, _ := gprime.Factor(whole(a))
		for turns := range 4 {
			again, other, e := gprime.Factor(gint.Turn(whole(a), turns))
			proof.Taken(t, called("Factor of an associate of ", a)+": k", again, e, (k+turns)%4)
			proof.Taken(t, called("Factor of an associate of ", a), parts(other), e, parts(list))
		}
	}
}
