package zint_test

import (
	"cmp"
	"fmt"
	"math"
	"math/bits"
	"testing"

	"tessel/api"
	"tessel/nat"
	"tessel/proof"
	"tessel/zint"
)

func TestFrom(t *testing.T) { // P2.1
	for _, c := range []struct {
		n    int64
		want api.Z
	}{
		{0, api.Z{}}, {1, api.Z{Mag: []uint32{1}}}, {-1, api.Z{Neg: true, Mag: []uint32{1}}},
		{1<<32 - 1, api.Z{Mag: []uint32{1<<32 - 1}}}, {1 << 32, api.Z{Mag: []uint32{0, 1}}}, {-1 << 32, api.Z{Neg: true, Mag: []uint32{0, 1}}},
		{math.MaxInt64, api.Z{Mag: []uint32{1<<32 - 1, 1<<31 - 1}}}, {-math.MaxInt64, api.Z{Neg: true, Mag: []uint32{1<<32 - 1, 1<<31 - 1}}},
		{math.MinInt64, api.Z{Neg: true, Mag: []uint32{0, 1 << 31}}},
	} {
		proof.Is(t, fmt.Sprint("From ", c.n), zint.From(c.n), c.want)
	}
}

func TestInt(t *testing.T) { // P2.1
	for _, n := range append(smalls(), math.MaxInt64, math.MaxInt64-1, math.MinInt64, math.MinInt64+1) {
		for _, a := range []api.Z{z(n), proof.Longer(z(n)), zint.From(n)} {
			if got, ok := zint.Int(a); got != n || !ok {
				t.Errorf("Int(%v): %d, %v, want %d", a, got, ok, n)
			}
		}
	}
	for _, a := range []api.Z{
		proof.Power2(63), more1(proof.Power2(63)), minus(more1(proof.Power2(63))), less1(proof.Power2(64)), minus(less1(proof.Power2(64))), proof.Power2(64), minus(proof.Power2(64)), proof.Number(true, 0, 1<<31, 1), proof.Number(false, 5, 0, 0, 1),
	} {
		for _, b := range []api.Z{a, proof.Longer(a)} {
			if got, ok := zint.Int(b); got != 0 || ok {
				t.Errorf("Int(%v): %d, %v, want 0, false", b, got, ok)
			}
		}
	}
	for _, a := range proof.Noughts() {
		if got, ok := zint.Int(a); got != 0 || !ok {
			t.Errorf("Int(%v): %d, %v, want 0, true", a, got, ok)
		}
	}
}

func TestOrder(t *testing.T) { // P2.1
	rising := []api.Z{
		minus(proof.Power2(96)), minus(proof.Power2(65)), minus(more1(proof.Power2(64))), minus(proof.Power2(64)), z(-1 << 63), z(-1 << 32), z(-3), z(-2), z(-1),
		z(0), z(1), z(2), z(1<<32 - 1), z(1 << 32), z(1<<32 + 1), proof.Power2(63), proof.Power2(65),
	}
	const zero = 9
	for i, a := range rising {
		for j, b := range rising {
			want := cmp.Compare(i, j)
			for _, got := range []int{zint.Cmp(a, b), zint.Cmp(proof.Longer(a), b), zint.Cmp(a, proof.Longer(b)), zint.Cmp(proof.Longer(a), proof.Longer(b))} {
				if got != want {
					t.Errorf("Cmp(%v, %v), with noughts or without: %d, want %d", a, b, got, want)
				}
			}
		}
		want := cmp.Compare(i, zero)
		if zint.Sign(a) != want || zint.Sign(proof.Longer(a)) != want {
			t.Errorf("Sign(%v): %d, with noughts %d, want %d", a, zint.Sign(a), zint.Sign(proof.Longer(a)), want)
		}
	}
	for _, a := range proof.Noughts() {
		for _, b := range proof.Noughts() {
			if zint.Sign(a) != 0 || zint.Cmp(a, b) != 0 {
				t.Errorf("0 is not 0: Sign(%v), Cmp with %v", a, b)
			}
		}
		if zint.Cmp(a, z(-1)) != 1 || zint.Cmp(z(-1), a) != -1 || zint.Cmp(a, z(1)) != -1 || zint.Cmp(z(1), a) != 1 {
			t.Errorf("%v is not between -1 and 1", a)
		}
	}
}

func TestAgainstMachine(t *testing.T) { // P2.1
	for _, n := range smalls() {
		a := z(n)
		for _, a := range []api.Z{a, proof.Longer(a)} {
			proof.Is(t, fmt.Sprint("Neg ", n), zint.Neg(a), z(-n))
			proof.Is(t, fmt.Sprint("Abs ", n), zint.Abs(a), z(max(n, -n)))
			if got := zint.Bits(a); got != bits.Len64(uint64(max(n, -n))) {
				t.Errorf("Bits(%d): %d", n, got)
			}
		}
		for _, m := range smalls() {
			for _, b := range []api.Z{z(m), proof.Longer(z(m))} {
				proof.Is(t, fmt.Sprint(n, " + ", m), zint.Add(a, b), z(n+m))
				proof.Is(t, fmt.Sprint(n, " - ", m), zint.Sub(a, b), z(n-m))
				proof.Is(t, fmt.Sprint(m, " - ", n), zint.Sub(b, a), z(m-n))
				proof.Is(t, fmt.Sprint(n, " * ", m), zint.Mul(a, b), product(n, m))
				if zint.Cmp(a, b) != cmp.Compare(n, m) {
					t.Errorf("Cmp(%d, %d): %d", n, m, zint.Cmp(a, b))
				}
			}
		}
	}
}

// product tells n m, whose amount may be greater than an int64's.
func product(n, m int64) api.Z {
	high, low := bits.Mul64(uint64(max(n, -n)), uint64(max(m, -m)))
	return proof.Number((n < 0) != (m < 0), uint32(low), uint32(low>>32), uint32(high), uint32(high>>32))
}

func TestSumsAgainstNat(t *testing.T) { // P2.1, on long numbers: amounts by nat, signs by cases
	d := proof.Dice(2)
	for range 2000 {
		a, b := d.Z(8), d.Z(8)
		amount := func(a, b api.Z) []uint32 { c, _ := nat.Sub(a.Mag, b.Mag); return c }
		sum := proof.Number(a.Neg, nat.Add(a.Mag, b.Mag)...)
		if a.Neg != b.Neg && nat.Cmp(a.Mag, b.Mag) >= 0 {
			sum = proof.Number(a.Neg, amount(a, b)...)
		} else if a.Neg != b.Neg {
			sum = proof.Number(b.Neg, amount(b, a)...)
		}
		proof.Is(t, fmt.Sprint(a, " + ", b), zint.Add(a, b), sum)
		proof.Is(t, fmt.Sprint(a, " - -", b), zint.Sub(a, minus(b)), sum)
		proof.Is(t, fmt.Sprint(a, " * ", b), zint.Mul(a, b), proof.Number(a.Neg != b.Neg, nat.Mul(a.Mag, b.Mag)...))
		proof.Is(t, "Neg", zint.Neg(a), minus(a))
		proof.Is(t, "Abs", zint.Abs(a), proof.Number(false, proof.Canon(a).Mag...))
		if zint.Bits(a) != nat.Bits(a.Mag) {
			t.Errorf("Bits(%v): %d", a, zint.Bits(a))
		}
	}
}

func TestRing(t *testing.T) { // P2.5
	d := proof.Dice(3)
	for range 1000 {
		a, b, c := d.Z(8), d.Z(8), d.Z(8)
		proof.Is(t, "a + b = b + a", zint.Add(a, b), zint.Add(b, a))
		proof.Is(t, "a b = b a", zint.Mul(a, b), zint.Mul(b, a))
		proof.Is(t, "a + (b + c) = (a + b) + c", zint.Add(a, zint.Add(b, c)), zint.Add(zint.Add(a, b), c))
		proof.Is(t, "a (b c) = (a b) c", zint.Mul(a, zint.Mul(b, c)), zint.Mul(zint.Mul(a, b), c))
		proof.Is(t, "a (b + c) = a b + a c", zint.Mul(a, zint.Add(b, c)), zint.Add(zint.Mul(a, b), zint.Mul(a, c)))
		proof.Is(t, "a + 0 = a", zint.Add(a, z(0)), proof.Canon(a))
		proof.Is(t, "a 1 = a", zint.Mul(a, z(1)), proof.Canon(a))
		proof.Is(t, "a + -a = 0", zint.Add(a, zint.Neg(a)), z(0))
		proof.Is(t, "a - b = a + -b", zint.Sub(a, b), zint.Add(a, zint.Neg(b)))
		proof.Is(t, "a b - b a = 0", zint.Sub(zint.Mul(a, b), zint.Mul(b, a)), z(0))
		if zint.Cmp(a, b) != zint.Sign(zint.Sub(a, b)) || zint.Cmp(a, b) != zint.Cmp(zint.Add(a, c), zint.Add(b, c)) {
			t.Errorf("Cmp(%v, %v) does not go along with differences or sums", a, b)
		}
	}
}
