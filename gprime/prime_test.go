package gprime_test

import (
	"testing"

	"tessel/api"
	"tessel/gint"
	"tessel/gprime"
	"tessel/proof"
	"tessel/zint"
)

func isPrime(t *testing.T, a complex128, want bool) {
	t.Helper()
	got, e := gprime.IsPrime(whole(a))
	proof.Taken(t, called("IsPrime", a), got, e, want)
}

func TestIsPrimeByProducts(t *testing.T) { // P6.1: no number divides but the units and its own associates
	primes := primesByProducts(1 << 15)
	for _, a := range proof.Square(127) {
		isPrime(t, a, a != 0 && primes[first(a)])
	}
}

func TestIsPrimeForms(t *testing.T) { // P6.1
	primes := primesByProducts(100)
	for _, a := range proof.Square(7) {
		for _, form := range proof.Forms(whole(a)) {
			got, e := gprime.IsPrime(form)
			proof.Taken(t, called("IsPrime of a form of ", a), got, e, a != 0 && primes[first(a)])
		}
	}
	for _, a := range proof.GNoughts() {
		got, e := gprime.IsPrime(a)
		proof.Taken(t, "IsPrime(0)", got, e, false)
	}
}

func TestIsPrimeOnAxes(t *testing.T) { // P6.1: a whole number is a prime here just if it's a prime number that leaves 3 by 4
	numbers := primeNumbers(1<<16 - 1)
	for n, is := range numbers {
		a, unit := complex(float64(n), 0), []complex128{1, 1i, -1, -1i}[n/4%4]
		isPrime(t, a*unit, is && n%4 == 3)
	}
}

// isNumberBy tells by a list of prime numbers whether n is one, of an n below the square of the list's length.
func isNumberBy(numbers []bool, n int64) bool {
	for p, is := range numbers {
		if is && n%int64(p) == 0 {
			return n == int64(p)
		}
	}
	return n > 1
}

func TestIsPrimeByNorms(t *testing.T) { // P6.1, P6.5: off the axes a number is a prime just if its norm is a prime number
	numbers := primeNumbers(1 << 16)
	d := proof.Dice(1)
	found := 0
	for range 6000 {
		a := within(&d, 16)
		if real(a) == 0 || imag(a) == 0 {
			continue
		}
		want := isNumberBy(numbers, norm(a))
		if want {
			found++
		}
		isPrime(t, a, want)
	}
	if found < 200 {
		t.Errorf("only %d are primes", found)
	}
}

func TestIsPrimeOfSquares(t *testing.T) { // P6.1: norms that are squares of prime numbers, up to the greatest ones
	for _, p := range []complex128{1 + 1i, 2 + 1i, 3 + 2i, 4 + 1i, 5 + 2i, 16 + 1i, 89 + 240i, 240 + 89i} {
		isPrime(t, p, true)
		isPrime(t, p*p, false)
		isPrime(t, p*proof.Conj(p), false)
	}
	for _, p := range []complex128{3, 7, 11, 251, 65519} {
		isPrime(t, p, true)
		isPrime(t, p*-1i, true)
	}
}

// atLimit are numbers of the greatest norms that are taken, and beyond those of the least that are refused.
func atLimit() (taken, refused []complex128) {
	for re := 0.0; re < 1<<16; re += 251 {
		im := 0.0
		for im < 1<<16 && re*re+im*im < limit {
			im++
		}
		a, b := complex(re, im-1), complex(re, im)
		taken, refused = append(taken, a, a*1i), append(refused, b, b*-1i)
	}
	return taken, refused
}

func longOnes() []api.G {
	list := []api.G{{Re: proof.Power2(16)}, {Im: proof.Power2(16)}, {Re: proof.Power2(31)}, {Re: proof.Power2(32)}, {Im: proof.Power2(32)}, {Re: proof.Power2(32), Im: z(1)}, {Re: z(3), Im: zint.Neg(proof.Power2(32))}, {Re: proof.Power2(64), Im: z(2)}, {Re: z(0), Im: proof.Power2(300)}}
	for _, a := range list {
		list = append(list, gint.Turn(a, 2), proof.Longer(a))
	}
	return list
}

func TestLimits(t *testing.T) { // P6.1, P6.2: a norm of 2^32 and more is refused, and none below it
	numbers := primeNumbers(1 << 16)
	taken, refused := atLimit()
	for _, a := range taken {
		if norm(a) >= limit || norm(a) < limit-1<<18 {
			t.Fatalf("%v lies not at the limit", a)
		}
		isPrime(t, a, isNumberBy(numbers, norm(a)))
		factored(t, whole(a), isTold)
	}
	over := longOnes()
	for _, a := range refused {
		over = append(over, whole(a))
	}
	for _, a := range over {
		is, e := gprime.IsPrime(a)
		proof.Refused(t, "IsPrime("+gint.Text(a)+")", is, e, api.ErrLimit)
		k, list, e := gprime.Factor(a)
		proof.Refused(t, "Factor("+gint.Text(a)+"): k", k, e, api.ErrLimit)
		proof.Refused(t, "Factor("+gint.Text(a)+")", parts(list), e, api.ErrLimit)
	}
}
