package nat_test

import (
	"fmt"
	"math/bits"
	"slices"
	"testing"

	"tessel/api"
	"tessel/nat"
	"tessel/proof"
)

func TestNorm(t *testing.T) { // P1.1
	for _, c := range []struct{ a, want []uint32 }{
		{nil, nil}, {[]uint32{}, nil}, {[]uint32{0}, nil}, {[]uint32{0, 0, 0}, nil},
		{[]uint32{1, 0, 0}, []uint32{1}}, {[]uint32{0, 0, 5, 0}, []uint32{0, 0, 5}}, {[]uint32{7, 1 << 31}, []uint32{7, 1 << 31}},
		{make([]uint32, 100000), nil},
	} {
		proof.Is(t, fmt.Sprint("Norm of ", len(c.a), " digits"), nat.Norm(c.a), c.want)
	}
}

func TestCmp(t *testing.T) { // P1.1
	rising := [][]uint32{nil, {1}, {2}, {1 << 31}, {1<<32 - 1}, {0, 1}, {1, 1}, {1<<32 - 1, 1}, {0, 2}, {0, 1 << 31}, {5, 0, 1}, {0, 1, 1}, {0, 0, 2}}
	for i, a := range rising {
		for j, b := range rising {
			want := 0
			if i < j {
				want = -1
			} else if i > j {
				want = 1
			}
			longer := append(slices.Clone(a), 0, 0)
			if nat.Cmp(a, b) != want || nat.Cmp(longer, b) != want || nat.Cmp(b, longer) != -want {
				t.Errorf("Cmp(%v, %v): not %d throughout", a, b, want)
			}
		}
	}
}

func TestBits(t *testing.T) { // P1.1
	for n := range 200 {
		if got := nat.Bits(append(power2(n), 0)); got != n+1 {
			t.Errorf("Bits(2^%d): %d", n, got)
		}
		below, _ := nat.Sub(power2(n), []uint32{1})
		if got := nat.Bits(below); got != n {
			t.Errorf("Bits(2^%d - 1): %d", n, got)
		}
	}
	if nat.Bits(nil) != 0 || nat.Bits([]uint32{0, 0}) != 0 {
		t.Error("Bits(0) is not 0")
	}
}

func TestAddCarries(t *testing.T) { // P1.1
	proof.Is(t, "4294967295 + 1", nat.Add(ones(1), []uint32{1}), []uint32{0, 1})
	proof.Is(t, "0 + 0", nat.Add([]uint32{0}, []uint32{0, 0}), nil)
	for _, n := range []int{1, 2, 3, 50} {
		next := append(make([]uint32, n), 1)
		proof.Is(t, "a carry through all digits", nat.Add(ones(n), []uint32{1, 0}), next)
		proof.Is(t, "a carry through all digits, turned round", nat.Add([]uint32{1}, ones(n)), next)
		twice := append(ones(n), 1)
		twice[0]--
		proof.Is(t, "all digits' greatest, twice", nat.Add(ones(n), ones(n)), twice)
	}
}

func TestSubBorrows(t *testing.T) { // P1.1
	sub := func(what string, a, b, want []uint32) {
		t.Helper()
		got, e := nat.Sub(a, b)
		proof.Taken(t, what, got, e, want)
	}
	for _, n := range []int{1, 2, 3, 50} {
		next := append(make([]uint32, n), 1)
		sub("a borrow through all digits", next, []uint32{1}, ones(n))
		sub("all but one", next, ones(n), []uint32{1})
		sub("itself", next, append(slices.Clone(next), 0), nil)
		got, e := nat.Sub(ones(n), next)
		proof.Refused(t, "one less than it takes away", got, e, api.ErrNeg)
	}
	sub("0 - 0", nil, []uint32{0}, nil)
	got, e := nat.Sub([]uint32{9, 9, 0, 0}, []uint32{0, 10})
	proof.Refused(t, "less, but with more digits", got, e, api.ErrNeg)
	got, e = nat.Sub(nil, []uint32{1})
	proof.Refused(t, "0 - 1", got, e, api.ErrNeg)
}

func TestMulEdges(t *testing.T) { // P1.1
	proof.Is(t, "0 times much", nat.Mul([]uint32{0, 0}, ones(9)), nil)
	proof.Is(t, "much times 0", nat.Mul(ones(9), nil), nil)
	proof.Is(t, "1 times much", nat.Mul([]uint32{1, 0}, ones(9)), ones(9))
	for _, c := range [][2]int{{1, 1}, {2, 2}, {1, 40}, {40, 1}, {40, 40}, {33, 35}} {
		m, n := c[0], c[1]
		// (2^x - 1) (2^y - 1) = 2^(x + y) - 2^x - 2^y + 1
		want := slowOf(power2(32 * (m + n))).sub(slowOf(power2(32 * m))).sub(slowOf(power2(32 * n))).add(slow{1})
		proof.Is(t, "all digits' greatest", nat.Mul(ones(m), append(ones(n), 0)), want.digits())
	}
}

func TestSumsAgainstWords(t *testing.T) { // P1.1, on numbers that words of the machine hold
	d := dice(1)
	for range 2000 {
		a, b := uint64(d.digit())<<32|uint64(d.digit()), uint64(d.digit())<<32|uint64(d.digit())
		x, y := []uint32{uint32(a), uint32(a >> 32)}, []uint32{uint32(b), uint32(b >> 32), 0}
		sum, carry := bits.Add64(a, b, 0)
		high, low := bits.Mul64(a, b)
		proof.Is(t, "Add", nat.Add(x, y), nat.Norm([]uint32{uint32(sum), uint32(sum >> 32), uint32(carry)}))
		proof.Is(t, "Mul", nat.Mul(x, y), nat.Norm([]uint32{uint32(low), uint32(low >> 32), uint32(high), uint32(high >> 32)}))
		left, e := nat.Sub(x, y)
		if a < b {
			proof.Refused(t, "Sub", left, e, api.ErrNeg)
		} else {
			proof.Taken(t, "Sub", left, e, nat.Norm([]uint32{uint32(a - b), uint32((a - b) >> 32)}))
		}
	}
}

func TestSumsAgainstSlow(t *testing.T) { // P1.1
	d := dice(2)
	for range 3000 {
		a, b := d.number(9), d.number(9)
		s, u := slowOf(a), slowOf(b)
		proof.Is(t, "Norm", nat.Norm(a), s.digits())
		proof.Is(t, "Add", nat.Add(a, b), s.add(u).digits())
		proof.Is(t, "Mul", nat.Mul(a, b), s.mul(u).digits())
		if nat.Cmp(a, b) != s.cmp(u) {
			t.Errorf("Cmp(%v, %v): %d", a, b, nat.Cmp(a, b))
		}
		left, e := nat.Sub(a, b)
		if s.cmp(u) < 0 {
			proof.Refused(t, "Sub", left, e, api.ErrNeg)
		} else {
			proof.Taken(t, "Sub", left, e, s.sub(u).digits())
		}
	}
}

func TestRing(t *testing.T) { // P1.6
	d := dice(3)
	for range 1000 {
		a, b, c := d.number(20), d.number(20), d.number(20)
		proof.Is(t, "a + b = b + a", nat.Add(a, b), nat.Add(b, a))
		proof.Is(t, "a b = b a", nat.Mul(a, b), nat.Mul(b, a))
		proof.Is(t, "a + (b + c) = (a + b) + c", nat.Add(a, nat.Add(b, c)), nat.Add(nat.Add(a, b), c))
		proof.Is(t, "a (b c) = (a b) c", nat.Mul(a, nat.Mul(b, c)), nat.Mul(nat.Mul(a, b), c))
		proof.Is(t, "a (b + c) = a b + a c", nat.Mul(a, nat.Add(b, c)), nat.Add(nat.Mul(a, b), nat.Mul(a, c)))
		left, e := nat.Sub(nat.Add(a, b), b)
		proof.Taken(t, "a + b - b = a", left, e, nat.Norm(a))
	}
}
