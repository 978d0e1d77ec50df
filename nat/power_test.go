package nat_test

import (
	"fmt"
	"math"
	"slices"
	"testing"

	"tessel/api"
	"tessel/nat"
	"tessel/proof"
)

func TestShl(t *testing.T) { // P1.3
	got, e := nat.Shl([]uint32{3}, 31)
	proof.Taken(t, "Shl(3, 31)", got, e, []uint32{1 << 31, 1})
	for n := range 200 {
		got, e := nat.Shl([]uint32{1, 0}, n)
		proof.Taken(t, fmt.Sprint("Shl(1, ", n, ")"), got, e, power2(n))
		got, e = nat.Shl([]uint32{1<<32 - 1, 5, 1 << 31, 0}, n)
		proof.Taken(t, fmt.Sprint("Shl of three digits by ", n), got, e, slowOf([]uint32{1<<32 - 1, 5, 1 << 31}).mul(slowOf(power2(n))).digits())
		got, e = nat.Shl([]uint32{0, 0}, n)
		proof.Taken(t, fmt.Sprint("Shl(0, ", n, ")"), got, e, nil)
	}
}

func TestShlLimits(t *testing.T) { // P1.3
	for _, a := range [][]uint32{nil, {0}, {1}, {7, 9}} {
		for _, n := range []int{-1, -32, -65537, math.MinInt} {
			got, e := nat.Shl(a, n)
			proof.Refused(t, fmt.Sprintf("Shl(%v, %d)", a, n), got, e, api.ErrArg)
		}
		for _, n := range []int{65537, 1 << 40, math.MaxInt} {
			got, e := nat.Shl(a, n)
			proof.Refused(t, fmt.Sprintf("Shl(%v, %d)", a, n), got, e, api.ErrLimit)
		}
		want := nat.Norm(a)
		if len(want) > 0 {
			want = append(make([]uint32, 2048), want...)
		}
		got, e := nat.Shl(a, 65536)
		proof.Taken(t, fmt.Sprintf("Shl(%v, 65536)", a), got, e, want)
	}
	// It is the places that are limited, not the number.
	got, e := nat.Shl(power2(200000), 65535)
	proof.Taken(t, "Shl(2^200000, 65535)", got, e, power2(265535))
}

func TestShr(t *testing.T) { // P1.3
	a := []uint32{1<<32 - 1, 6, 0, 1 << 31, 0}
	for n := range 200 {
		got, e := nat.Shr(a, n)
		proof.Taken(t, fmt.Sprint("Shr by ", n), got, e, slowOf(a).quotient(power2(n)))
	}
	for _, n := range []int{128, 129, 65536, 65537, 1 << 62, math.MaxInt} {
		got, e := nat.Shr(a, n)
		proof.Taken(t, fmt.Sprint("Shr by ", n), got, e, nil)
		got, e = nat.Shr(nil, n)
		proof.Taken(t, fmt.Sprint("Shr of 0 by ", n), got, e, nil)
	}
	got, e := nat.Shr(power2(200000), 199999)
	proof.Taken(t, "Shr(2^200000, 199999)", got, e, []uint32{2})
	for _, n := range []int{-1, -32, math.MinInt} {
		got, e := nat.Shr(a, n)
		proof.Refused(t, fmt.Sprint("Shr by ", n), got, e, api.ErrArg)
		got, e = nat.Shr(nil, n)
		proof.Refused(t, fmt.Sprint("Shr of 0 by ", n), got, e, api.ErrArg)
	}
}

func TestPow(t *testing.T) { // P1.4
	d := dice(8)
	for range 60 {
		a := d.number(3)
		want := slow{1}
		for n := range 9 {
			got, e := nat.Pow(a, n)
			proof.Taken(t, fmt.Sprintf("Pow(%v, %d)", a, n), got, e, want.digits())
			want = want.mul(slowOf(a))
		}
	}
	got, e := nat.Pow([]uint32{10, 0}, 10)
	proof.Taken(t, "10^10", got, e, []uint32{1410065408, 2})
	for _, n := range []int{1, 2, 5, 65536, 65537, 1 << 62, math.MaxInt} {
		got, e := nat.Pow([]uint32{1, 0}, n)
		proof.Taken(t, fmt.Sprint("1^", n), got, e, []uint32{1})
		got, e = nat.Pow([]uint32{0}, n)
		proof.Taken(t, fmt.Sprint("0^", n), got, e, nil)
	}
	got, e = nat.Pow([]uint32{0, 0}, 0)
	proof.Taken(t, "0^0", got, e, []uint32{1})
}

func TestPowLimits(t *testing.T) { // P1.4
	for _, a := range [][]uint32{nil, {1}, {2}, ones(3000)} {
		for _, n := range []int{-1, math.MinInt} {
			got, e := nat.Pow(a, n)
			proof.Refused(t, fmt.Sprintf("Pow, %d digits, %d", len(a), n), got, e, api.ErrArg)
		}
	}
	for _, c := range []struct {
		a    []uint32
		last int // the greatest power that is taken
	}{
		{[]uint32{2}, 32768}, {[]uint32{3, 0, 0}, 32768}, {[]uint32{4}, 21845}, {[]uint32{7}, 21845}, {[]uint32{8}, 16384},
		{ones(1), 2048}, {[]uint32{0, 1}, 1985}, {power2(32767), 2}, {power2(32768), 1}, {power2(65535), 1}, {power2(65536), 0}, {ones(3000), 0},
	} {
		what := fmt.Sprintf("Pow of %d bits", nat.Bits(c.a))
		got, e := nat.Pow(c.a, c.last)
		if e != api.OK || nat.Bits(got) > 65536 || nat.Bits(got) <= c.last*(nat.Bits(c.a)-1) {
			t.Errorf("%s, %d: error %d, %d bits", what, c.last, e, nat.Bits(got))
		}
		for _, n := range []int{c.last + 1, c.last + 70000, math.MaxInt} {
			got, e := nat.Pow(c.a, n)
			proof.Refused(t, fmt.Sprint(what, ", ", n), got, e, api.ErrLimit)
		}
	}
	got, e := nat.Pow([]uint32{2}, 32768)
	proof.Taken(t, "2^32768", got, e, power2(32768))
}

func TestRoot(t *testing.T) { // P1.4
	root := uint32(0)
	for n := range uint32(3000) {
		if (root+1)*(root+1) <= n {
			root++
		}
		proof.Is(t, fmt.Sprint("Root(", n, ")"), nat.Root([]uint32{n, 0}), nat.Norm([]uint32{root}))
	}
	proof.Is(t, "Root()", nat.Root(nil), nil)
	proof.Is(t, "Root(0 0)", nat.Root([]uint32{0, 0}), nil)
	proof.Is(t, "Root(2^64 - 1)", nat.Root(ones(2)), ones(1))
	proof.Is(t, "Root(2^64)", nat.Root([]uint32{0, 0, 1}), []uint32{0, 1})
	// Longer than any shift that Shl takes.
	proof.Is(t, "Root(2^300000)", nat.Root(power2(300000)), power2(150000))
	below, _ := nat.Sub(power2(300000), []uint32{1})
	want, _ := nat.Sub(power2(150000), []uint32{1})
	proof.Is(t, "Root(2^300000 - 1)", nat.Root(below), want)
}

func TestRootSquares(t *testing.T) { // P1.4, P1.6
	d := dice(9)
	for range 1500 {
		a := d.number(15)
		root := nat.Root(a)
		next := nat.Add(root, []uint32{1})
		if nat.Cmp(nat.Mul(root, root), a) > 0 || nat.Cmp(nat.Mul(next, next), a) <= 0 {
			t.Errorf("Root(%v): %v", a, root)
		}
		square := nat.Mul(a, a)
		proof.Is(t, "Root(a^2)", nat.Root(square), nat.Norm(a))
		proof.Is(t, "Root(a^2 + 2a)", nat.Root(nat.Add(square, nat.Add(a, a))), nat.Norm(a))
	}
}

func TestShiftsArePowers(t *testing.T) { // P1.3, P1.4
	d := dice(10)
	for range 300 {
		a, n := d.number(6), d.next(400)
		power, _ := nat.Pow([]uint32{2}, n)
		up, e := nat.Shl(a, n)
		proof.Taken(t, "a 2^n", up, e, nat.Mul(a, power))
		q, _, _ := nat.DivMod(a, power)
		down, e := nat.Shr(a, n)
		proof.Taken(t, "a / 2^n", down, e, slices.Clone(q))
	}
}
