package zint_test

import (
	"fmt"
	"math"
	"testing"

	"tessel/api"
	"tessel/nat"
	"tessel/proof"
	"tessel/zint"
)

// gcdOf tells the greatest common divisor of small numbers by trial.
func gcdOf(n, m int64) int64 {
	n, m = max(n, -n), max(m, -m)
	for k := max(n, m); k > 0; k-- {
		if n%k == 0 && m%k == 0 {
			return k
		}
	}
	return 0
}

// xgcdOf tells, by trial, what P2.3 says of small numbers.
func xgcdOf(n, m int64) (g, x, y int64) {
	g = gcdOf(n, m)
	if m == 0 {
		if n < 0 {
			return g, -1, 0
		}
		return g, min(n, 1), 0
	}
	for (g-n*x)%m != 0 {
		x++
	}
	return g, x, (g - n*x) / m
}

func bezout(t *testing.T, a, b, g, x, y api.Z) {
	t.Helper()
	gotG, gotX, gotY := zint.Xgcd(a, b)
	what := fmt.Sprintf("Xgcd(%v, %v)", a, b)
	proof.Is(t, what+": g", gotG, g)
	proof.Is(t, what+": x", gotX, x)
	proof.Is(t, what+": y", gotY, y)
}

func TestGcdSmall(t *testing.T) { // P2.3
	for n := int64(-36); n <= 36; n++ {
		for m := int64(-36); m <= 36; m++ {
			g, x, y := xgcdOf(n, m)
			for _, a := range []api.Z{z(n), proof.Longer(z(n))} {
				for _, b := range []api.Z{z(m), proof.Longer(z(m))} {
					proof.Is(t, fmt.Sprintf("Gcd(%d, %d)", n, m), zint.Gcd(a, b), z(g))
					bezout(t, a, b, z(g), z(x), z(y))
				}
			}
		}
	}
}

func TestXgcdEdges(t *testing.T) { // P2.3
	for _, a := range proof.Noughts() {
		for _, b := range proof.Noughts() {
			proof.Is(t, "Gcd of 0s", zint.Gcd(a, b), z(0))
			bezout(t, a, b, z(0), z(0), z(0))
		}
		for _, n := range []api.Z{z(1), z(5), z(1 << 40), proof.Power2(200)} {
			bezout(t, n, a, n, z(1), z(0))
			bezout(t, minus(n), a, n, z(-1), z(0))
			bezout(t, a, n, n, z(0), z(1))
			bezout(t, a, minus(n), n, z(0), z(-1))
		}
	}
	low, high := z(math.MinInt64), proof.Power2(63)
	bezout(t, low, low, high, z(0), z(-1))
	bezout(t, high, low, high, z(0), z(-1))
	bezout(t, low, high, high, z(0), z(1))
	bezout(t, low, z(-1), z(1), z(0), z(-1))
	bezout(t, z(1), low, z(1), z(1), z(0))
	bezout(t, z(-1), low, z(1), less1(high), z(-1))
	bezout(t, z(-1), high, z(1), less1(high), z(1))
	bezout(t, more1(high), high, z(1), z(1), z(-1))
}

func TestXgcdOfMultiples(t *testing.T) { // P2.3: of numbers of which one divides the other
	d := proof.Dice(6)
	for range 500 {
		b, k := d.ZNotZero(5), d.Z(5)
		a := zint.Mul(b, k)
		bezout(t, a, b, zint.Abs(b), z(0), z(int64(zint.Sign(b))))
		if zint.Bits(k) < 2 {
			continue
		}
		// a = k b: b x + a y is the amount of b, if x + k y is b's sign.
		if b.Neg {
			bezout(t, b, a, zint.Abs(b), zint.Sub(zint.Abs(k), z(1)), z(int64(-zint.Sign(k))))
		} else {
			bezout(t, b, a, zint.Abs(b), z(1), z(0))
		}
	}
}

func TestXgcdLong(t *testing.T) { // P2.3, P2.5: what makes x and y the only ones
	d := proof.Dice(7)
	for range 1500 {
		common := d.ZNotZero(4)
		a, b := zint.Mul(common, d.Z(6)), zint.Mul(common, d.ZNotZero(6))
		g, x, y := zint.Xgcd(a, b)
		proof.Is(t, "g", g, proof.Number(false, nat.Gcd(a.Mag, b.Mag)...))
		proof.Is(t, "Gcd", zint.Gcd(a, b), g)
		proof.Is(t, "a x + b y = g", zint.Add(zint.Mul(a, x), zint.Mul(b, y)), g)
		period, e := zint.Exact(zint.Abs(b), g)
		if e != api.OK || zint.Sign(x) < 0 || zint.Cmp(x, period) >= 0 || !proof.Alike(x, proof.Canon(x)) || !proof.Alike(y, proof.Canon(y)) {
			t.Errorf("Xgcd(%v, %v): %v, %v, %v", a, b, g, x, y)
		}
		if _, e := zint.Exact(a, g); e != api.OK {
			t.Errorf("Gcd(%v, %v): %v does not divide both", a, b, g)
		}
		if _, e := zint.Exact(g, common); e != api.OK {
			t.Errorf("Gcd(%v, %v): %v divides both, but not %v", a, b, common, g)
		}
	}
}

func TestXgcdMostSteps(t *testing.T) { // P2.3: Fibonacci's numbers
	a, b := z(0), z(1)
	for range 3000 {
		a, b = b, zint.Add(a, b)
	}
	before := zint.Sub(b, a)
	// F(n) F(n) - F(n-1) F(n+1) = 1 or -1, by turns.
	got := zint.Sub(zint.Mul(a, a), zint.Mul(before, b))
	x := a
	if got.Neg {
		x = zint.Sub(b, a)
	}
	y, _ := zint.Exact(zint.Sub(z(1), zint.Mul(a, x)), b)
	bezout(t, a, b, z(1), x, y)
}

func TestInverseSmall(t *testing.T) { // P2.3
	for n := int64(-40); n <= 40; n++ {
		for m := int64(-20); m <= 20; m++ {
			for _, a := range []api.Z{z(n), proof.Longer(z(n))} {
				for _, b := range []api.Z{z(m), proof.Longer(z(m))} {
					got, e := zint.Inverse(a, b)
					what := fmt.Sprintf("Inverse(%d, %d)", n, m)
					if m == 0 {
						proof.Refused(t, what, got, e, api.ErrZero)
					} else if gcdOf(n, m) != 1 {
						proof.Refused(t, what, got, e, api.ErrNone)
					} else {
						_, x, _ := xgcdOf(n, m)
						proof.Taken(t, what, got, e, z(x))
					}
				}
			}
		}
	}
}

func TestInverseEdges(t *testing.T) { // P2.3: modulo 0, 1 and -1, and modulo long numbers below 0
	for _, a := range samples() {
		for _, m := range proof.Noughts() {
			got, e := zint.Inverse(a, m)
			proof.Refused(t, fmt.Sprintf("Inverse(%v, %v)", a, m), got, e, api.ErrZero)
		}
		for _, m := range []api.Z{z(1), z(-1), proof.Longer(z(1)), proof.Longer(z(-1))} {
			got, e := zint.Inverse(a, m)
			proof.Taken(t, fmt.Sprintf("Inverse(%v, %v)", a, m), got, e, z(0))
		}
	}
	for _, m := range []api.Z{z(2), z(-2), proof.Power2(64), minus(proof.Power2(64))} {
		got, e := zint.Inverse(z(0), m)
		proof.Refused(t, fmt.Sprintf("Inverse(0, %v)", m), got, e, api.ErrNone)
	}
	d := proof.Dice(8)
	for range 1000 {
		a, m := d.Z(6), d.ZNotZero(6)
		x, e := zint.Inverse(a, m)
		if nat.Cmp(nat.Gcd(a.Mag, m.Mag), []uint32{1}) != 0 {
			proof.Refused(t, fmt.Sprintf("Inverse(%v, %v)", a, m), x, e, api.ErrNone)
			continue
		}
		_, inexact := zint.Exact(zint.Sub(zint.Mul(a, x), z(1)), m)
		if e != api.OK || inexact != api.OK || zint.Sign(x) < 0 || zint.Cmp(x, zint.Abs(m)) >= 0 || !proof.Alike(x, proof.Canon(x)) {
			t.Errorf("Inverse(%v, %v): %v, error %d", a, m, x, e)
		}
	}
}
