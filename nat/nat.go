// Package nat: natural numbers by digits: see DOC.md, chapter 1.
package nat

import (
	"math/bits"

	"tessel/api"
)

// digitBits: a digit is worth 2^digitBits of the one below it.
const digitBits = 32

// trim shows the number without digits 0 at the top. It shares a's memory, so what comes in is never answered so.
func trim(a []uint32) []uint32 {
	n := len(a)
	for n > 0 && a[n-1] == 0 {
		n--
	}
	return a[:n]
}

// widen tells a copy with one more digit, 0, at the top: a carry or a quotient's first guess needs that place.
func widen(a []uint32) []uint32 {
	wide := make([]uint32, len(a)+1)
	copy(wide, a)
	return wide
}

// addTimes adds v d to u, in place, and tells the carry out of u's top. v is not longer than u.
func addTimes(u, v []uint32, d uint32) uint64 {
	carry := uint64(0)
	for i, x := range v {
		// The greatest product and two more digits are 2^64 - 1: no carry is lost.
		carry += uint64(x)*uint64(d) + uint64(u[i])
		u[i] = uint32(carry)
		carry >>= digitBits
	}
	for i := len(v); carry != 0 && i < len(u); i++ {
		carry += uint64(u[i])
		u[i] = uint32(carry)
		carry >>= digitBits
	}
	return carry
}

// takeTimes takes v d off u, in place, and tells what is still owed at u's top. v is not longer than u.
func takeTimes(u, v []uint32, d uint32) uint64 {
	borrow := uint64(0)
	for i, x := range v {
		// What is owed is 2^32 at most, and so is less than what the greatest product leaves below 2^64.
		borrow += uint64(x) * uint64(d)
		left := uint64(u[i]) - uint64(uint32(borrow))
		u[i] = uint32(left)
		borrow = borrow>>digitBits + wrapped(left)
	}
	for i := len(v); borrow != 0 && i < len(u); i++ {
		left := uint64(u[i]) - borrow
		u[i] = uint32(left)
		borrow = wrapped(left)
	}
	return borrow
}

// wrapped tells 1 of a difference that went below 0: it wrapped round, so its top bit is set, which no difference of digits has.
func wrapped(difference uint64) uint64 { return difference >> 63 }

// Norm tells the number without digits 0 at the top.
func Norm(a []uint32) []uint32 {
	a = trim(a)
	number := make([]uint32, len(a))
	copy(number, a)
	return number
}

// Cmp compares: -1, 0 or 1.
func Cmp(a, b []uint32) int {
	a, b = trim(a), trim(b)
	if len(a) != len(b) {
		return sign(len(a) < len(b))
	}
	for i := len(a) - 1; i >= 0; i-- {
		if a[i] != b[i] {
			return sign(a[i] < b[i])
		}
	}
	return 0
}

func sign(less bool) int {
	if less {
		return -1
	}
	return 1
}

// Bits tells how many bits it has.
func Bits(a []uint32) int {
	a = trim(a)
	if len(a) == 0 {
		return 0
	}
	top := len(a) - 1
	return top*digitBits + bits.Len32(a[top])
}

// Add adds.
func Add(a, b []uint32) []uint32 {
	a, b = trim(a), trim(b)
	if len(a) < len(b) {
		a, b = b, a
	}
	sum := widen(a)
	addTimes(sum, b, 1)
	return trim(sum)
}

// Sub takes away.
func Sub(a, b []uint32) ([]uint32, api.Errno) {
	if Cmp(a, b) < 0 {
		return nil, api.ErrNeg
	}
	difference := Norm(a)
	takeTimes(difference, trim(b), 1)
	return trim(difference), api.OK
}

// Mul multiplies.
func Mul(a, b []uint32) []uint32 {
	a, b = trim(a), trim(b)
	product := make([]uint32, len(a)+len(b))
	for i, d := range a {
		addTimes(product[i:], b, d)
	}
	return trim(product)
}
