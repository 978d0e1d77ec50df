package gint

import "tessel/api"

// Gcd tells the greatest common divisor.
func Gcd(a, b api.G) api.G {
	for !isZero(b) {
		a, b = b, Sub(a, Mul(quotient(a, b), b))
	}
	g, _ := Canon(a)
	return g
}

// Xgcd tells it as a sum of both.
func Xgcd(a, b api.G) (g, x, y api.G) {
	now, next := sumOfBoth{a, From(1, 0), api.G{}}, sumOfBoth{b, api.G{}, From(1, 0)}
	for !isZero(next.value) {
		q := quotient(now.value, next.value)
		now, next = next, now.less(q, next)
	}
	g, k := Canon(now.value)
	return g, Turn(now.x, k), Turn(now.y, k)
}

// sumOfBoth is a number that is a x + b y, of the a and b whose divisor is sought.
type sumOfBoth struct{ value, x, y api.G }

// less tells a sum less q times another one.
func (s sumOfBoth) less(q api.G, other sumOfBoth) sumOfBoth {
	return sumOfBoth{
		Sub(s.value, Mul(q, other.value)), Sub(s.x, Mul(q, other.x)), Sub(s.y, Mul(q, other.y)),
	}
}
