package zint

import (
	"tessel/api"
	"tessel/nat"
)

// FloorDiv divides, rounding down.
func FloorDiv(a, b api.Z) (q, r api.Z, e api.Errno) {
	quotient, rest, e := nat.DivMod(a.Mag, b.Mag)
	if e != api.OK {
		return api.Z{}, api.Z{}, e
	}
	q, r = signed(a.Neg != b.Neg, quotient), signed(a.Neg, rest)
	if Sign(r) != 0 && a.Neg != b.Neg {
		// Amounts were divided, so q was rounded towards 0: of a quotient below 0 that is up.
		q, r = Sub(q, From(1)), Add(r, b)
	}
	return q, r, api.OK
}

// RoundDiv divides, rounding to the nearest.
func RoundDiv(a, b api.Z) (q, r api.Z, e api.Errno) {
	q, r, e = FloorDiv(a, b)
	if e != api.OK {
		return api.Z{}, api.Z{}, e
	}
	if nat.Cmp(nat.Add(r.Mag, r.Mag), b.Mag) >= 0 {
		// r / b is from 0 to 1, whatever b's sign: of a half and more the next one is nearer, or as near.
		q, r = Add(q, From(1)), Sub(r, b)
	}
	return q, r, api.OK
}

// Exact divides without a rest.
func Exact(a, b api.Z) (api.Z, api.Errno) {
	quotient, rest, e := nat.DivMod(a.Mag, b.Mag)
	if e != api.OK {
		return api.Z{}, e
	}
	if len(rest) > 0 {
		return api.Z{}, api.ErrInexact
	}
	return signed(a.Neg != b.Neg, quotient), api.OK
}
