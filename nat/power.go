package nat

import (
	"math/bits"

	"tessel/api"
)

// Shl multiplies by a power of two.
func Shl(a []uint32, n int) ([]uint32, api.Errno) {
	if n < 0 {
		return nil, api.ErrArg
	}
	if n > api.MaxShift {
		return nil, api.ErrLimit
	}
	return shiftUp(trim(a), n), api.OK
}

// shiftUp shifts by any n: within the package no limit is set to it.
func shiftUp(a []uint32, n int) []uint32 {
	skip, shift := n/digitBits, n%digitBits
	shifted := make([]uint32, skip+len(a)+1)
	copy(shifted[skip:], a)
	carry := uint64(0)
	for i := skip; i < len(shifted); i++ {
		carry |= uint64(shifted[i]) << shift
		shifted[i] = uint32(carry)
		carry >>= digitBits
	}
	return trim(shifted)
}

// Shr divides by one.
func Shr(a []uint32, n int) ([]uint32, api.Errno) {
	if n < 0 {
		return nil, api.ErrArg
	}
	a = trim(a)
	skip, shift := n/digitBits, n%digitBits
	if skip >= len(a) {
		return nil, api.OK
	}
	shifted := Norm(a[skip:])
	above := uint64(0)
	for i := len(shifted) - 1; i >= 0; i-- {
		above = above<<digitBits | uint64(shifted[i])
		shifted[i] = uint32(above >> shift)
	}
	return trim(shifted), api.OK
}

// Pow tells a power.
func Pow(a []uint32, n int) ([]uint32, api.Errno) {
	if n < 0 {
		return nil, api.ErrArg
	}
	size := Bits(a)
	if size > 1 && n > api.MaxShift/size {
		return nil, api.ErrLimit
	}
	power := []uint32{1}
	if size <= 1 {
		// Of 0 and of 1 all powers from the first on are one, and n may be as great as it will.
		n = min(n, 1)
	}
	for i := bits.Len(uint(n)) - 1; i >= 0; i-- {
		power = Mul(power, power)
		if n>>i&1 == 1 {
			power = Mul(power, a)
		}
	}
	return power, api.OK
}

// Root tells the square root, rounded down.
func Root(a []uint32) []uint32 {
	if Bits(a) == 0 {
		return nil
	}
	// From above the root, Newton's steps fall till they are there: the first one that does not fall ends it.
	root := shiftUp([]uint32{1}, (Bits(a)+1)/2)
	for {
		q, _, _ := DivMod(a, root)
		next, _ := Shr(Add(root, q), 1)
		if Cmp(next, root) >= 0 {
			return root
		}
		root = next
	}
}
