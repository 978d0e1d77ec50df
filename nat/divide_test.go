package nat_test

import (
	"fmt"
	"testing"

	"tessel/api"
	"tessel/nat"
	"tessel/proof"
)

func divides(t *testing.T, a, b, q, r []uint32) {
	t.Helper()
	gotQ, gotR, e := nat.DivMod(a, b)
	what := fmt.Sprintf("DivMod(%v, %v)", a, b)
	proof.Taken(t, what+": q", gotQ, e, q)
	proof.Taken(t, what+": r", gotR, e, r)
}

func TestDivModEdges(t *testing.T) { // P1.2
	divides(t, nil, []uint32{3}, nil, nil)
	divides(t, []uint32{0, 0}, ones(4), nil, nil)
	divides(t, []uint32{7, 0, 0, 0}, []uint32{7, 0}, []uint32{1}, nil)
	divides(t, []uint32{6, 0, 0, 0}, []uint32{7, 0}, nil, []uint32{6})
	divides(t, []uint32{8}, []uint32{7, 0, 0, 0, 0, 0}, []uint32{1}, []uint32{1})
	divides(t, ones(50), []uint32{1}, ones(50), nil)
	divides(t, ones(50), ones(50), []uint32{1}, nil)
	divides(t, ones(50), power2(1599), []uint32{1}, append(ones(49), 1<<31-1))
	divides(t, []uint32{5, 7}, []uint32{10}, []uint32{3006477107}, []uint32{7})
	divides(t, []uint32{0, 0, 1}, []uint32{0, 1 << 31}, []uint32{2}, nil)
	for _, zero := range [][]uint32{nil, {}, {0}, {0, 0, 0}} {
		for _, a := range [][]uint32{nil, {1}, ones(3)} {
			q, r, e := nat.DivMod(a, zero)
			proof.Refused(t, "q by 0", q, e, api.ErrZero)
			proof.Refused(t, "r by 0", r, e, api.ErrZero)
		}
	}
}

func TestDivModGuesses(t *testing.T) { // P1.2: quotients whose digit, guessed from the top digits, is too great
	divides(t, []uint32{3, 0, 1 << 31}, []uint32{1, 0, 1 << 29}, []uint32{3}, []uint32{0, 0, 1 << 29})
	divides(t, []uint32{0, 0, 1 << 31, 1<<31 - 1}, []uint32{1, 0, 1 << 31}, []uint32{1<<32 - 2}, []uint32{2, 1<<32 - 1, 1<<31 - 1})
	divides(t, []uint32{0, 1<<32 - 2, 1 << 31}, []uint32{1<<32 - 1, 1 << 31}, []uint32{1<<32 - 1}, []uint32{1<<32 - 1, 1<<31 - 1})
	divides(t, []uint32{0, 0, 0, 1 << 31}, []uint32{1, 0, 1 << 31}, []uint32{1<<32 - 1}, []uint32{1, 1<<32 - 1, 1<<31 - 1})
	divides(t, []uint32{0, 0, 1<<32 - 1}, []uint32{1, 1<<32 - 1}, []uint32{1<<32 - 1}, []uint32{1, 1<<32 - 2})
	divides(t, []uint32{3, 0, 1 << 31}, []uint32{1, 1 << 31}, []uint32{1<<32 - 1}, []uint32{4, 1<<31 - 1})
	// The mended digit lies between two more of the quotient's.
	a, b := []uint32{7, 3, 5, 1 << 31, 5 << 29}, []uint32{1, 0, 1 << 29}
	divides(t, a, b, slowOf(a).quotient(b), slowOf(a).rest(b))
}

func (s slow) quotient(b []uint32) []uint32 {
	q, _ := s.divMod(slowOf(b))
	return q.digits()
}

func (s slow) rest(b []uint32) []uint32 {
	_, r := s.divMod(slowOf(b))
	return r.digits()
}

func TestDivModAgainstSlow(t *testing.T) { // P1.2
	d := dice(4)
	for range 6000 {
		a, b := d.number(7), d.number(5)
		if slowOf(b).cmp(nil) != 0 {
			divides(t, a, b, slowOf(a).quotient(b), slowOf(a).rest(b))
		}
	}
}

func TestDivModBack(t *testing.T) { // P1.2: a = q b + r, r < b, from the answer's side
	d := dice(5)
	for range 3000 {
		q, b, r := d.number(12), d.number(12), d.number(12)
		if nat.Cmp(r, b) < 0 {
			divides(t, nat.Add(nat.Mul(q, b), r), b, nat.Norm(q), nat.Norm(r))
		}
	}
	// Just below a multiple of b the first guesses are the most too great.
	for range 3000 {
		q, b := d.number(6), d.number(6)
		if multiple := nat.Mul(q, b); len(multiple) > 0 {
			below, _ := nat.Sub(multiple, []uint32{1})
			less, _ := nat.Sub(q, []uint32{1})
			rest, _ := nat.Sub(b, []uint32{1})
			divides(t, below, b, less, rest)
		}
	}
}

func TestGcd(t *testing.T) { // P1.4
	for _, c := range []struct{ a, b, want []uint32 }{
		{nil, nil, nil}, {[]uint32{0, 0}, []uint32{0}, nil}, {nil, []uint32{7, 0}, []uint32{7}}, {[]uint32{7}, nil, []uint32{7}}, {ones(9), []uint32{0}, ones(9)},
		{[]uint32{12}, []uint32{18}, []uint32{6}}, {[]uint32{1}, ones(30), []uint32{1}}, {ones(30), ones(30), ones(30)},
		{[]uint32{0, 12}, []uint32{0, 0, 18}, []uint32{0, 6 * 2}}, {[]uint32{6}, []uint32{0, 0, 0, 4}, []uint32{2}},
		// 2^x - 1 and 2^y - 1: 2^Gcd(x, y) - 1
		{ones(42), ones(30), ones(6)}, {ones(7), ones(40), ones(1)},
	} {
		proof.Is(t, fmt.Sprintf("Gcd(%v, %v)", c.a, c.b), nat.Gcd(c.a, c.b), c.want)
		proof.Is(t, fmt.Sprintf("Gcd(%v, %v)", c.b, c.a), nat.Gcd(c.b, c.a), c.want)
	}
}

func TestGcdSlow(t *testing.T) { // P1.4
	d := dice(6)
	for range 150 {
		a, b := d.number(4), d.number(4)
		s, u := slowOf(a), slowOf(b)
		for len(u) > 0 {
			_, r := s.divMod(u)
			s, u = u, r
		}
		proof.Is(t, fmt.Sprintf("Gcd(%v, %v)", a, b), nat.Gcd(a, b), s.digits())
	}
}

func TestGcdDivides(t *testing.T) { // P1.6
	d := dice(7)
	for range 1000 {
		common, x, y := d.number(5), d.number(6), d.number(6)
		a, b := nat.Mul(common, x), nat.Mul(common, y)
		g := nat.Gcd(a, b)
		if len(g) == 0 {
			if len(a) != 0 || len(b) != 0 {
				t.Errorf("Gcd(%v, %v): 0", a, b)
			}
			continue
		}
		_, left, _ := nat.DivMod(a, g)
		_, right, _ := nat.DivMod(b, g)
		_, over, _ := nat.DivMod(g, common)
		if len(left)+len(right)+len(over) != 0 {
			t.Errorf("Gcd(%v, %v): %v: it does not divide both, or %v does not divide it", a, b, g, common)
		}
	}
}

func TestGcdLongest(t *testing.T) { // P1.4: Fibonacci's numbers, that have the most divisions
	a, b := []uint32(nil), []uint32{1}
	for range 5000 {
		a, b = b, nat.Add(a, b)
	}
	proof.Is(t, "two of Fibonacci's", nat.Gcd(b, a), []uint32{1})
	proof.Is(t, "twelve times two of Fibonacci's", nat.Gcd(nat.Mul(a, []uint32{12}), nat.Mul(b, []uint32{12})), []uint32{12})
}
