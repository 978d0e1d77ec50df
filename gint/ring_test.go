package gint_test

import (
	"fmt"
	"math"
	"testing"

	"tessel/api"
	"tessel/gint"
	"tessel/proof"
	"tessel/zint"
)

func TestFrom(t *testing.T) { // P4.1
	edges := []int64{0, 1, -1, 7, -7, 1<<32 - 1, 1 << 32, -1 << 32, math.MaxInt64, math.MinInt64, math.MinInt64 + 1}
	for _, re := range edges {
		for _, im := range edges {
			proof.Is(t, fmt.Sprintf("From(%d, %d)", re, im), gint.From(re, im), g(re, im))
		}
	}
}

func TestRingAgainstMachine(t *testing.T) { // P4.1
	for _, x := range square(4) {
		for _, y := range square(4) {
			for k, a := range proof.Forms(x.whole()) {
				b := proof.Forms(y.whole())[3-k]
				what := fmt.Sprint(" of ", x, " and ", y)
				proof.Is(t, "Add"+what, gint.Add(a, b), x.plus(y).whole())
				proof.Is(t, "Sub"+what, gint.Sub(a, b), x.less(y).whole())
				proof.Is(t, "Mul"+what, gint.Mul(a, b), x.times(y).whole())
				if got := gint.Equal(a, b); got != (x == y) {
					t.Errorf("Equal%s: %v", what, got)
				}
			}
		}
		for _, a := range proof.Forms(x.whole()) {
			proof.Is(t, fmt.Sprint("Neg of ", x), gint.Neg(a), g(-x.re, -x.im))
			proof.Is(t, fmt.Sprint("Conj of ", x), gint.Conj(a), g(x.re, -x.im))
			if got := gint.Norm(a); !proof.Alike(got, z(x.norm())) {
				t.Errorf("Norm of %v: %v", x, got)
			}
			if got := gint.IsUnit(a); got != (x.norm() == 1) {
				t.Errorf("IsUnit of %v: %v", x, got)
			}
		}
	}
}

func TestRingOfLong(t *testing.T) { // P4.1
	d := proof.Dice(2)
	for range 400 {
		a, b := d.G(9), d.G(9)
		what := fmt.Sprintf(" of %s and %s", show(a), show(b))
		proof.Is(t, "Add"+what, gint.Add(a, b), sum(a, b))
		proof.Is(t, "Sub"+what, gint.Sub(a, b), difference(a, b))
		proof.Is(t, "Mul"+what, gint.Mul(a, b), product(a, b))
		proof.Is(t, "Neg"+what, gint.Neg(a), difference(api.G{}, a))
		proof.Is(t, "Conj"+what, gint.Conj(a), api.G{Re: zint.Add(a.Re, z(0)), Im: zint.Neg(a.Im)})
		norm := product(a, api.G{Re: a.Re, Im: zint.Neg(a.Im)})
		proof.Is(t, "Norm"+what, api.G{Re: gint.Norm(a)}, norm)
	}
}

func TestEqual(t *testing.T) { // P4.1
	list := append(proof.GNoughts()[:1], g(1, 0), g(0, 1), g(-1, 0), g(0, -1), g(1, 1), g(1, -1), g(5, 7), g(7, 5), api.G{Re: proof.Power2(64)}, api.G{Im: proof.Power2(64)}, api.G{Re: proof.Power2(64), Im: z(1)}, api.G{Re: proof.Power2(32), Im: proof.Power2(64)})
	for i, x := range list {
		for j, y := range list {
			for _, a := range proof.Forms(x) {
				for _, b := range proof.Forms(y) {
					if got := gint.Equal(a, b); got != (i == j) {
						t.Errorf("Equal(%v, %v): %v", a, b, got)
					}
				}
			}
		}
	}
}

func TestIsUnit(t *testing.T) { // P4.1
	for _, u := range []api.G{g(1, 0), g(0, 1), g(-1, 0), g(0, -1)} {
		for _, a := range proof.Forms(u) {
			if !gint.IsUnit(a) {
				t.Errorf("IsUnit(%v): false", a)
			}
		}
	}
	for _, x := range append(proof.GNoughts(), g(1, 1), g(-1, 1), g(1, -1), g(2, 0), g(0, -2), g(3, 0), g(1<<32, 0), g(0, 1<<32), g(1, 1<<32), g(1<<32+1, 0), api.G{Re: proof.Power2(64), Im: z(1)}) {
		for _, a := range proof.Forms(x) {
			if gint.IsUnit(a) {
				t.Errorf("IsUnit(%v): true", a)
			}
		}
	}
}

func TestRingLaws(t *testing.T) { // P4.7
	d := proof.Dice(3)
	for range 200 {
		a, b, c := d.G(4), d.G(4), d.G(4)
		what := fmt.Sprintf(" of %s, %s, %s", show(a), show(b), show(c))
		proof.Is(t, "sum put in another order"+what, gint.Add(gint.Add(a, b), c), gint.Add(a, gint.Add(c, b)))
		proof.Is(t, "product put in another order"+what, gint.Mul(gint.Mul(a, b), c), gint.Mul(a, gint.Mul(c, b)))
		proof.Is(t, "product over a sum"+what, gint.Mul(a, gint.Add(b, c)), gint.Add(gint.Mul(a, b), gint.Mul(a, c)))
		proof.Is(t, "taken away and added"+what, gint.Add(gint.Sub(a, b), b), proof.Canon(a))
		proof.Is(t, "conjugate of a product"+what, gint.Conj(gint.Mul(a, b)), gint.Mul(gint.Conj(a), gint.Conj(b)))
		if norms := zint.Mul(gint.Norm(a), gint.Norm(b)); !proof.Alike(gint.Norm(gint.Mul(a, b)), norms) {
			t.Errorf("norm of a product%s", what)
		}
		if isZero(gint.Mul(a, b)) != (isZero(a) || isZero(b)) {
			t.Errorf("divisors of 0%s", what)
		}
	}
}

func TestTurn(t *testing.T) { // P4.1
	list := append(samples(), g(2, 1), g(0, 1), g(1, 0))
	for _, a := range list {
		four := []api.G{a, {Re: zint.Neg(a.Im), Im: a.Re}, {Re: zint.Neg(a.Re), Im: zint.Neg(a.Im)}, {Re: a.Im, Im: zint.Neg(a.Re)}}
		for k, want := range four {
			for _, whole := range []int{k, k + 4, k + 400, k - 4, k - 8, k - 4000, 1<<62 + k, k - 1<<62, math.MaxInt - 3 + k, math.MinInt + k} {
				proof.Is(t, fmt.Sprintf("Turn(%v, %d)", a, whole), gint.Turn(a, whole), proof.Canon(want))
			}
		}
	}
	proof.Is(t, "Turn by the greatest", gint.Turn(g(2, 1), math.MaxInt), g(1, -2))
	proof.Is(t, "Turn by the least", gint.Turn(g(2, 1), math.MinInt), g(2, 1))
}

func TestCanon(t *testing.T) { // P4.2
	for _, c := range []struct {
		a, want small
		k       int
	}{
		{small{0, 0}, small{0, 0}, 0},
		{small{3, 0}, small{3, 0}, 0}, {small{0, 3}, small{3, 0}, 3}, {small{-3, 0}, small{3, 0}, 2}, {small{0, -3}, small{3, 0}, 1},
		{small{1, 2}, small{1, 2}, 0}, {small{-2, 1}, small{1, 2}, 3}, {small{-1, -2}, small{1, 2}, 2}, {small{2, -1}, small{1, 2}, 1},
		{small{5, 5}, small{5, 5}, 0}, {small{-5, 5}, small{5, 5}, 3}, {small{-5, -5}, small{5, 5}, 2}, {small{5, -5}, small{5, 5}, 1},
		{small{1, 0}, small{1, 0}, 0}, {small{0, 1}, small{1, 0}, 3}, {small{-1, 0}, small{1, 0}, 2}, {small{0, -1}, small{1, 0}, 1},
	} {
		for _, a := range proof.Forms(c.a.whole()) {
			h, k := gint.Canon(a)
			proof.Is(t, fmt.Sprintf("Canon(%v)", a), h, c.want.whole())
			if k != c.k {
				t.Errorf("Canon(%v): k is %d, want %d", a, k, c.k)
			}
		}
	}
	d := proof.Dice(4)
	for range 200 {
		a := d.GNotZero(6)
		h, k := gint.Canon(a)
		if !inFirst(h) || k < 0 || k > 3 {
			t.Errorf("Canon(%s): %s, %d", show(a), show(h), k)
		}
		proof.Is(t, "i^k times "+show(a), h, gint.Turn(a, k))
		for turns := range 4 {
			other, _ := gint.Canon(gint.Turn(a, turns))
			proof.Is(t, "Canon of an associate of "+show(a), other, h)
		}
	}
}

func TestOrder(t *testing.T) { // P4.5
	// Of each norm all numbers, by the real part, then the imaginary part.
	rising := []small{
		{0, 0}, {-1, 0}, {0, -1}, {0, 1}, {1, 0}, {-1, -1}, {-1, 1}, {1, -1}, {1, 1}, {-2, 0}, {0, -2}, {0, 2}, {2, 0}, {-2, -1},
		{-5, 0}, {-4, -3}, {-4, 3}, {-3, -4}, {-3, 4}, {0, -5}, {0, 5}, {3, -4}, {3, 4}, {4, -3}, {4, 3}, {5, 0}, {-5, 1}, {-1 << 20, 0}, {0, 1 << 20}, {1, 1 << 20}, {1<<20 + 1, 0},
	}
	for i, x := range rising {
		for j, y := range rising {
			for k, a := range proof.Forms(x.whole()) {
				want := max(-1, min(1, i-j))
				if got := gint.Cmp(a, proof.Forms(y.whole())[3-k]); got != want {
					t.Errorf("Cmp(%v, %v): %d, want %d", x, y, got, want)
				}
			}
		}
	}
	long := []api.G{{Re: zint.Neg(proof.Power2(100))}, {Im: zint.Neg(proof.Power2(100))}, {Im: proof.Power2(100)}, {Re: proof.Power2(100)}, {Re: zint.Neg(proof.Power2(100)), Im: z(-1)}, {Re: z(1), Im: proof.Power2(100)}}
	for i, a := range long {
		for j, b := range long {
			if got := gint.Cmp(a, b); got != max(-1, min(1, i-j)) {
				t.Errorf("Cmp(%s, %s): %d", show(a), show(b), got)
			}
		}
	}
}
