package gprime_test

import (
	"slices"
	"testing"

	"tessel/api"
	"tessel/gint"
	"tessel/gprime"
	"tessel/proof"
	"tessel/zint"
)

func z(n int64) api.Z { return proof.Z(n) }

func g(re, im int64) api.G { return proof.G(re, im) }

func whole(a complex128) api.G { return proof.Whole(a) }

// limit: numbers of this norm and of greater ones are refused.
const limit = 1 << 32

func norm(a complex128) int64 { return int64(proof.Norm(a)) }

// machine tells a number of small parts as the machine has it.
func machine(a api.G) complex128 {
	re, _ := zint.Int(a.Re)
	im, _ := zint.Int(a.Im)
	return complex(float64(re), float64(im))
}

func called(name string, a complex128) string { return name + "(" + gint.Text(whole(a)) + ")" }

// all tells the numbers of a list as they are answered.
func all(list []complex128) []api.G {
	var numbers []api.G
	for _, a := range list {
		numbers = append(numbers, whole(a))
	}
	return numbers
}

// first tells the associate in the first quadrant, of a number that is not 0.
func first(a complex128) complex128 {
	for real(a) <= 0 || imag(a) < 0 {
		a *= 1i
	}
	return a
}

// quadrant lists the first quadrant's numbers of a norm of at most n, rising as gint.Cmp has it.
func quadrant(n float64) []complex128 {
	var list []complex128
	for re := 1.0; re*re <= n; re++ {
		for im := 0.0; re*re+im*im <= n; im++ {
			list = append(list, complex(re, im))
		}
	}
	slices.SortFunc(list, proof.Compare)
	return list
}

// primesByProducts tells the first quadrant's primes of a norm of at most n: all numbers but the unit and what is a product of two that are none.
func primesByProducts(n float64) map[complex128]bool {
	numbers := quadrant(n)[1:]
	primes := map[complex128]bool{}
	for _, a := range numbers {
		primes[a] = true
	}
	for _, a := range numbers {
		for _, b := range numbers {
			if proof.Norm(a*b) > n {
				break
			}
			delete(primes, first(a*b))
		}
	}
	return primes
}

// primeNumbers tells of each whole number up to n whether it is a prime number, by crossing out multiples.
func primeNumbers(n int) []bool {
	list := make([]bool, n+1)
	for p := 2; p <= n; p++ {
		list[p] = true
	}
	for p := 2; p <= n; p++ {
		for q := 2 * p; list[p] && q <= n; q += p {
			list[q] = false
		}
	}
	return list
}

// parts tells what a list of powers is made of.
func parts(list []gprime.Power) []any {
	var all []any
	for _, power := range list {
		all = append(all, []any{power.P, power.N})
	}
	return all
}

// product tells i^k times all powers.
func product(k int, list []gprime.Power) api.G {
	all := gint.Turn(g(1, 0), k)
	for _, power := range list {
		for range power.N {
			all = gint.Mul(all, power.P)
		}
	}
	return all
}

// isTold tells whether a number is told to be a prime.
func isTold(p api.G) bool {
	is, e := gprime.IsPrime(p)
	return is && e == api.OK
}

// factored tells a fault where Factor doesn't answer the one list that P6.2 asks for, and answers what it tells. What is a prime is left to isPrime.
func factored(t *testing.T, a api.G, isPrime func(p api.G) bool) []gprime.Power {
	t.Helper()
	what := "Factor(" + gint.Text(a) + ")"
	k, list, e := gprime.Factor(a)
	proof.Taken(t, what+": the product", product(k, list), e, proof.Canon(a))
	if k < 0 || k > 3 {
		t.Errorf("%s: k is %d", what, k)
	}
	for i, power := range list {
		if power.N < 1 || !isPrime(power.P) {
			t.Errorf("%s: %s, %d times", what, gint.Text(power.P), power.N)
		}
		proof.Is(t, what+": a factor", power.P, proof.Canon(power.P))
		if _, turns := gint.Canon(power.P); turns != 0 {
			t.Errorf("%s: %s does not lie in the first quadrant", what, gint.Text(power.P))
		}
		if i > 0 && gint.Cmp(list[i-1].P, power.P) >= 0 {
			t.Errorf("%s does not rise at %s", what, gint.Text(power.P))
		}
	}
	return list
}

// within tells a number that is not 0, of a norm below the limit, whose parts have at most bits bits.
func within(d *proof.Dice, bits int) complex128 {
	for {
		a := complex(float64(d.Next(2<<bits)-1<<bits), float64(d.Next(2<<bits)-1<<bits))
		if a != 0 && norm(a) < limit {
			return a
		}
	}
}
