package zint

import (
	"tessel/api"
	"tessel/nat"
)

// Gcd tells the greatest common divisor.
func Gcd(a, b api.Z) api.Z { return signed(false, nat.Gcd(a.Mag, b.Mag)) }

// Xgcd tells it as a sum of both.
func Xgcd(a, b api.Z) (g, x, y api.Z) {
	if Sign(b) == 0 {
		return Abs(a), From(int64(Sign(a))), api.Z{}
	}
	g, x = factorOfFirst(a, Abs(b))
	// Neither division by Exact leaves a rest, and no divisor is 0.
	period, _ := Exact(Abs(b), g)
	_, x, _ = FloorDiv(x, period)
	y, _ = Exact(Sub(g, Mul(a, x)), b)
	return g, x, y
}

// factorOfFirst tells the greatest common divisor, and an x for which b divides g - a x. b is above 0.
func factorOfFirst(a, b api.Z) (g, x api.Z) {
	_, next, _ := FloorDiv(a, b)
	g, nextX := Abs(b), From(1)
	// At all times b divides g - a x and next - a nextX: how often b itself is taken need not be known for that.
	for Sign(next) != 0 {
		q, r, _ := FloorDiv(g, next)
		g, next = next, r
		x, nextX = nextX, Sub(x, Mul(q, nextX))
	}
	return g, x
}

// Inverse tells what it makes 1 with, but for multiples of m.
func Inverse(a, m api.Z) (api.Z, api.Errno) {
	if Sign(m) == 0 {
		return api.Z{}, api.ErrZero
	}
	g, x, _ := Xgcd(a, m)
	if Cmp(g, From(1)) != 0 {
		return api.Z{}, api.ErrNone
	}
	return x, api.OK
}
