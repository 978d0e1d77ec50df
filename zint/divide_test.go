package zint_test

import (
	"fmt"
	"math"
	"testing"

	"tessel/api"
	"tessel/nat"
	"tessel/proof"
	"tessel/zint"
)

type division func(a, b api.Z) (q, r api.Z, e api.Errno)

func divides(t *testing.T, name string, f division, a, b, q, r api.Z) {
	t.Helper()
	gotQ, gotR, e := f(a, b)
	what := fmt.Sprintf("%s(%v, %v)", name, a, b)
	proof.Taken(t, what+": q", gotQ, e, q)
	proof.Taken(t, what+": r", gotR, e, r)
}

func exactly(t *testing.T, a, b, want api.Z) {
	t.Helper()
	got, e := zint.Exact(a, b)
	proof.Taken(t, fmt.Sprintf("Exact(%v, %v)", a, b), got, e, want)
}

// floorOf tells the floor of n / m, and halfUp that of n / m + 1/2.
func floorOf(n, m int64) int64 {
	q := n / m
	if n%m != 0 && (n < 0) != (m < 0) {
		q--
	}
	return q
}

func halfUp(n, m int64) int64 { return floorOf(2*n+m, 2*m) }

func TestDivisionsAgainstMachine(t *testing.T) { // P2.2
	for _, n := range smalls() {
		for _, m := range smalls() {
			if m == 0 {
				continue
			}
			for _, a := range []api.Z{z(n), proof.Longer(z(n))} {
				for _, b := range []api.Z{z(m), proof.Longer(z(m))} {
					q, nearest := floorOf(n, m), halfUp(n, m)
					divides(t, "FloorDiv", zint.FloorDiv, a, b, z(q), z(n-q*m))
					divides(t, "RoundDiv", zint.RoundDiv, a, b, z(nearest), z(n-nearest*m))
					if n%m == 0 {
						exactly(t, a, b, z(n/m))
					} else {
						got, e := zint.Exact(a, b)
						proof.Refused(t, fmt.Sprintf("Exact(%d, %d)", n, m), got, e, api.ErrInexact)
					}
				}
			}
		}
	}
}

func TestByZero(t *testing.T) { // P2.2
	for _, a := range samples() {
		for _, b := range proof.Noughts() {
			for name, f := range map[string]division{"FloorDiv": zint.FloorDiv, "RoundDiv": zint.RoundDiv} {
				q, r, e := f(a, b)
				proof.Refused(t, fmt.Sprintf("%s(%v, %v): q", name, a, b), q, e, api.ErrZero)
				proof.Refused(t, fmt.Sprintf("%s(%v, %v): r", name, a, b), r, e, api.ErrZero)
			}
			got, e := zint.Exact(a, b)
			proof.Refused(t, fmt.Sprintf("Exact(%v, %v)", a, b), got, e, api.ErrZero)
		}
	}
}

func TestByOne(t *testing.T) { // P2.2: divisors 1 and -1
	for _, a := range samples() {
		for _, f := range []division{zint.FloorDiv, zint.RoundDiv} {
			divides(t, "by 1", f, a, z(1), proof.Canon(a), z(0))
			divides(t, "by -1", f, a, z(-1), minus(a), z(0))
		}
		exactly(t, a, z(1), proof.Canon(a))
		exactly(t, a, z(-1), minus(a))
		if nat.Bits(a.Mag) > 0 {
			exactly(t, a, a, z(1))
			exactly(t, a, minus(a), z(-1))
		}
	}
}

func TestDivisionsAtWordEnds(t *testing.T) { // P2.2: -2^63 and 2^63 and their neighbours
	low, high := z(math.MinInt64), proof.Power2(63)
	divides(t, "FloorDiv", zint.FloorDiv, low, z(-1), high, z(0))
	divides(t, "RoundDiv", zint.RoundDiv, low, z(-1), high, z(0))
	exactly(t, low, z(-1), high)
	exactly(t, low, high, z(-1))
	divides(t, "FloorDiv", zint.FloorDiv, low, less1(high), z(-2), less1(less1(high)))
	divides(t, "RoundDiv", zint.RoundDiv, low, less1(high), z(-1), z(-1))
	divides(t, "FloorDiv", zint.FloorDiv, less1(high), low, z(-1), z(-1))
	divides(t, "FloorDiv", zint.FloorDiv, z(1), low, z(-1), minus(less1(high)))
	divides(t, "FloorDiv", zint.FloorDiv, z(-1), minus(more1(high)), z(0), z(-1))
	divides(t, "FloorDiv", zint.FloorDiv, z(-1), proof.Power2(64), z(-1), less1(proof.Power2(64)))
}

func TestHalves(t *testing.T) { // P2.2: halves, of positive and of negative divisors, and what is just beside them
	for _, half := range []api.Z{z(1), z(2), z(3), z(1 << 31), z(1<<31 + 1), z(1 << 62), proof.Power2(63), more1(proof.Power2(95))} {
		b := zint.Add(half, half)
		for k := int64(-3); k <= 3; k++ {
			for _, b := range []api.Z{b, minus(b)} {
				middle := zint.Add(zint.Mul(z(k), b), half)
				// The middle is q + 1/2 of a divisor above 0, q - 1/2 of one below 0: of both the greater neighbour is taken.
				up, down := k+1, k
				if b.Neg {
					up, down = k, k-1
				}
				divides(t, "RoundDiv, a half", zint.RoundDiv, middle, b, z(up), zint.Sub(middle, zint.Mul(z(up), b)))
				before, behind := zint.Sub(middle, z(1)), zint.Add(middle, z(1))
				if b.Neg {
					before, behind = behind, before
				}
				divides(t, "RoundDiv, less than a half", zint.RoundDiv, before, b, z(down), zint.Sub(before, zint.Mul(z(down), b)))
				divides(t, "RoundDiv, more than a half", zint.RoundDiv, behind, b, z(up), zint.Sub(behind, zint.Mul(z(up), b)))
			}
		}
	}
	for _, c := range [][4]int64{{1, 2, 1, -1}, {-1, 2, 0, -1}, {1, -2, 0, 1}, {-1, -2, 1, 1}, {3, 2, 2, -1}, {-3, 2, -1, -1}, {3, -2, -1, 1}, {-3, -2, 2, 1}, {7, 2, 4, -1}, {-7, 2, -3, -1}, {7, -2, -3, 1}, {-7, -2, 4, 1}} {
		divides(t, "RoundDiv", zint.RoundDiv, z(c[0]), z(c[1]), z(c[2]), z(c[3]))
	}
}

func TestDivisionLaws(t *testing.T) { // P2.5, P2.2 on long numbers
	d := proof.Dice(4)
	for range 4000 {
		a, b := d.Z(8), d.ZNotZero(6)
		q, r, e := zint.FloorDiv(a, b)
		proof.Is(t, "FloorDiv: a = q b + r", zint.Add(zint.Mul(q, b), r), proof.Canon(a))
		if e != api.OK || zint.Sign(r) != 0 && r.Neg != b.Neg || nat.Cmp(r.Mag, b.Mag) >= 0 || !proof.Alike(q, proof.Canon(q)) || !proof.Alike(r, proof.Canon(r)) {
			t.Errorf("FloorDiv(%v, %v): %v, %v, error %d", a, b, q, r, e)
		}
		q, r, e = zint.RoundDiv(a, b)
		proof.Is(t, "RoundDiv: a = q b + r", zint.Add(zint.Mul(q, b), r), proof.Canon(a))
		double := zint.Add(r, r)
		if b.Neg {
			double = zint.Neg(double)
		}
		// a / b - q = r / b: from -1/2 (included) to 1/2 (excluded).
		if size := zint.Abs(b); e != api.OK || zint.Cmp(double, minus(size)) < 0 || zint.Cmp(double, size) >= 0 || !proof.Alike(q, proof.Canon(q)) || !proof.Alike(r, proof.Canon(r)) {
			t.Errorf("RoundDiv(%v, %v): %v, %v, error %d", a, b, q, r, e)
		}
	}
}

func TestExactLaws(t *testing.T) { // P2.2 on long numbers
	d := proof.Dice(5)
	for range 2000 {
		q, b := d.Z(6), d.ZNotZero(6)
		a := zint.Mul(q, b)
		exactly(t, a, b, proof.Canon(q))
		if zint.Bits(b) > 1 {
			got, e := zint.Exact(zint.Add(a, z(1)), b)
			proof.Refused(t, fmt.Sprintf("Exact(%v + 1, %v)", a, b), got, e, api.ErrInexact)
			got, e = zint.Exact(zint.Sub(a, z(1)), b)
			proof.Refused(t, fmt.Sprintf("Exact(%v - 1, %v)", a, b), got, e, api.ErrInexact)
		}
	}
}
