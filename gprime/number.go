package gprime

// leastDivisor tells n's least divisor from 2 on. n is at least 2.
func leastDivisor(n uint64) uint64 {
	for d := uint64(2); d*d <= n; d++ {
		if n%d == 0 {
			return d
		}
	}
	return n
}

func isPrimeNumber(n uint64) bool { return n >= 2 && leastDivisor(n) == n }

// primeNumbersOf lists the prime numbers that divide n, each one once. n is above 0.
func primeNumbersOf(n uint64) []uint64 {
	var list []uint64
	for n > 1 {
		p := leastDivisor(n)
		list = append(list, p)
		for n%p == 0 {
			n /= p
		}
	}
	return list
}

// isNormOfPrime tells whether the numbers of a norm are primes.
func isNormOfPrime(norm uint64) bool {
	if norm < 2 {
		return false
	}
	p := leastDivisor(norm)
	// A p that leaves 3 by 4 is no norm, so nothing divides p but the units and its associates; and no others have the norm p^2.
	return p == norm || p%4 == 3 && p*p == norm
}
