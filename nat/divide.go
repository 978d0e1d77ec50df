package nat

import (
	"math/bits"

	"tessel/api"
)

// DivMod divides.
func DivMod(a, b []uint32) (q, r []uint32, e api.Errno) {
	a, b = trim(a), trim(b)
	if len(b) == 0 {
		return nil, nil, api.ErrZero
	}
	if len(a) < len(b) {
		return nil, Norm(a), api.OK
	}
	dividend := widen(a)
	q = make([]uint32, len(a)-len(b)+1)
	divide(q, dividend, b)
	// The third index keeps what is appended to the rest out of the dividend's used up places.
	n := len(trim(dividend[:len(b)]))
	return trim(q), dividend[:n:n], api.OK
}

// divide lays the quotient's digits in q and leaves the rest in u. The top digit of u is 0, that of v is not, and q has a place for each digit by which u is longer than v.
func divide(q, u, v []uint32) {
	shift := bits.LeadingZeros32(v[len(v)-1])
digits:
	for j := len(trim(u)) - len(v); j >= 0; j-- {
		window := u[j : j+len(v)+1]
		guess := guessDigit(window, v, shift)
		owed := takeTimes(window, v, guess)
		for {
			if owed == 0 {
				q[j] = guess
				continue digits
			}
			guess--
			owed -= addTimes(window, v, 1)
		}
	}
}

// guessDigit tells the digit that window has of v, or one more: it looks at three digits of window and two of v alone. The window has one digit more than v, and is less than v 2^32. Shifted so that v's top bit is set, for the guess is far off where v's top digit is small.
func guessDigit(window, v []uint32, shift int) uint32 {
	const base = 1 << digitBits
	n := len(v)
	first, second := shiftedDigit(v, n-1, shift), shiftedDigit(v, n-2, shift)
	high := shiftedDigit(window, n, shift)<<digitBits | shiftedDigit(window, n-1, shift)
	third := shiftedDigit(window, n-2, shift)
	guess, rest := high/first, high%first
	for rest < base && (guess >= base || guess*second > rest<<digitBits|third) {
		guess--
		rest += first
	}
	return uint32(guess)
}

// shiftedDigit tells digit k of a 2^shift, shift less than a digit's bits.
func shiftedDigit(a []uint32, k, shift int) uint64 {
	return (digitOr0(a, k)<<digitBits | digitOr0(a, k-1)) << shift >> digitBits
}

func digitOr0(a []uint32, k int) uint64 {
	if k < 0 {
		return 0
	}
	return uint64(a[k])
}

// Gcd tells the greatest common divisor.
func Gcd(a, b []uint32) []uint32 {
	u, v := widen(trim(a)), widen(trim(b))
	unread := make([]uint32, max(len(u), len(v)))
	for {
		n := len(trim(v))
		if n == 0 {
			return trim(u)
		}
		divide(unread, u, v[:n])
		// Digits that became 0 are left behind, all but the one that the next division needs: nobody looks them through again.
		u, v = v[:n+1], u
	}
}
