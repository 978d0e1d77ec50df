package gint_test

import (
	"fmt"
	"testing"

	"tessel/api"
	"tessel/gint"
	"tessel/proof"
	"tessel/zint"
)

// xgcdOf goes the steps that P4.4 tells, one by one.
func xgcdOf(a, b api.G) (h, x, y api.G) {
	r, s, u, v := a, b, api.G{}, g(1, 0)
	x = g(1, 0)
	for !isZero(s) {
		q, _, _ := gint.RoundDiv(r, s)
		r, s = s, difference(r, product(q, s))
		x, u = u, difference(x, product(q, u))
		y, v = v, difference(y, product(q, v))
	}
	for !isZero(r) && !inFirst(r) {
		r, x, y = product(r, g(0, 1)), product(x, g(0, 1)), product(y, g(0, 1))
	}
	return proof.Canon(r), proof.Canon(x), proof.Canon(y)
}

func bezout(t *testing.T, a, b, h, x, y api.G) {
	t.Helper()
	gotH, gotX, gotY := gint.Xgcd(a, b)
	what := fmt.Sprintf("cd(%s, %s)", show(a), show(b))
	proof.Is(t, "Xg"+what+": g", gotH, h)
	proof.Is(t, "Xg"+what+": x", gotX, x)
	proof.Is(t, "Xg"+what+": y", gotY, y)
	proof.Is(t, "G"+what, gint.Gcd(a, b), h)
}

// follows tells where Xgcd and Gcd don't answer what the steps do.
func follows(t *testing.T, a, b api.G) {
	t.Helper()
	h, x, y := xgcdOf(a, b)
	bezout(t, a, b, h, x, y)
}

func TestXgcdOfSmall(t *testing.T) { // P4.4
	for _, x := range square(5) {
		for _, y := range square(3) {
			for k, a := range proof.Forms(x.whole()) {
				follows(t, a, proof.Forms(y.whole())[3-k])
			}
		}
	}
}

// isMultiple tells whether d divides a. d is not 0.
func (a small) isMultiple(d small) bool { return a == a.over(d).times(d) }

// divisorOf tells, by trial, the first quadrant's number of the greatest norm that divides both. Its parts are at most 7 where one of both is not 0 and has parts of at most 5.
func divisorOf(x, y small) small {
	best := small{}
	if x == best && y == best {
		return best
	}
	for _, d := range square(7) {
		if d.re > 0 && d.im >= 0 && d.norm() > best.norm() && x.isMultiple(d) && y.isMultiple(d) {
			best = d
		}
	}
	return best
}

func TestGcdByTrial(t *testing.T) { // P4.4, P4.7
	for _, x := range square(5) {
		for _, y := range square(5) {
			proof.Is(t, fmt.Sprint("Gcd of ", x, " and ", y), gint.Gcd(x.whole(), y.whole()), divisorOf(x, y).whole())
		}
	}
}

func TestXgcdEdges(t *testing.T) { // P4.4
	for _, a := range proof.GNoughts() {
		for _, b := range proof.GNoughts() {
			bezout(t, a, b, g(0, 0), g(1, 0), g(0, 0))
		}
		for _, c := range []api.G{g(2, 1), g(3, 0), {Re: proof.Power2(300), Im: z(7)}} {
			for k := range 4 {
				turned := gint.Turn(c, k)
				bezout(t, turned, a, c, gint.Turn(g(1, 0), -k), g(0, 0))
				bezout(t, a, turned, c, g(0, 0), gint.Turn(g(1, 0), -k))
			}
		}
	}
	for k := range 4 {
		unit := gint.Turn(g(1, 0), k)
		for l := range 4 {
			bezout(t, gint.Turn(g(1, 0), l), unit, g(1, 0), g(0, 0), gint.Turn(g(1, 0), -k))
			bezout(t, gint.Turn(g(3, 4), l), gint.Turn(g(3, 4), k), g(3, 4), g(0, 0), gint.Turn(g(1, 0), -k))
		}
		bezout(t, g(17, -5), unit, g(1, 0), g(0, 0), gint.Turn(g(1, 0), -k))
	}
	bezout(t, g(5, 0), g(2, 1), g(2, 1), g(0, 0), g(1, 0))
	bezout(t, g(3, 0), g(0, 2), g(1, 0), g(1, 0), g(0, 1))
}

// multiple tells whether b divides a.
func multiple(a, b api.G) bool {
	if isZero(b) {
		return isZero(a)
	}
	_, e := gint.Exact(a, b)
	return e == api.OK
}

func TestXgcdOfLong(t *testing.T) { // P4.4, P4.7
	d := proof.Dice(6)
	for i := range 250 {
		a, b, c := d.G(1+i/12), d.G(1+i/14), d.GNotZero(3)
		a, b = product(a, c), product(b, c)
		follows(t, a, b)
		h, x, y := gint.Xgcd(a, b)
		what := fmt.Sprintf("Xgcd(%s, %s)", show(a), show(b))
		proof.Is(t, what+": a x + b y", sum(product(a, x), product(b, y)), h)
		if !multiple(a, h) || !multiple(b, h) || !multiple(h, c) {
			t.Errorf("%s: %s is not the greatest common divisor", what, show(h))
		}
	}
}

// TestXgcdNearSides: quotients of long numbers that lie on the square's sides and corners, or next to them, or as far from them as some digits less would tell.
func TestXgcdNearSides(t *testing.T) { // P4.4
	d := proof.Dice(7)
	offs := []api.G{g(0, 0), g(1, 0), g(-1, 0), g(0, 1), g(0, -1), g(1, 1), g(-1, 1)}
	for size := 1; size <= 14; size++ {
		for k := range 12 {
			half := api.G{Re: zint.Add(d.Z(size), proof.Power2(32*size)), Im: d.Z(size)}
			half = gint.Turn(half, k)
			b := sum(half, half)
			near := product(half, []api.G{g(1, 0), g(0, 1), g(1, 1), g(-1, 1), g(0, -1), g(1, -1)}[k%6])
			a := sum(product(d.G(1), b), near)
			for _, off := range offs {
				follows(t, sum(a, off), b)
				follows(t, sum(a, product(off, api.G{Re: proof.Power2(32*size - 28)})), b)
				follows(t, a, sum(b, off))
			}
		}
	}
}

func TestXgcdOfUneven(t *testing.T) { // P4.4: one number much longer than the other one
	d := proof.Dice(8)
	for _, sizes := range [][2]int{{20, 1}, {1, 20}, {20, 5}, {20, 6}, {20, 13}, {20, 19}, {19, 20}, {40, 7}, {7, 40}} {
		for range 6 {
			follows(t, d.G(sizes[0]), d.G(sizes[1]))
			follows(t, api.G{Re: d.Z(sizes[0])}, api.G{Im: d.Z(sizes[1])})
			follows(t, api.G{Re: d.Z(sizes[0]), Im: d.Z(1)}, api.G{Re: d.Z(1), Im: d.Z(sizes[1])})
		}
	}
}

func TestXgcdOfVeryLong(t *testing.T) { // R1: it ends soon, and what it answers is a common divisor
	d := proof.Dice(9)
	a, b, c := d.G(300), d.G(300), d.G(20)
	a, b = product(a, c), product(b, c)
	h, x, y := gint.Xgcd(a, b)
	proof.Is(t, "a x + b y", sum(product(a, x), product(b, y)), h)
	if !multiple(a, h) || !multiple(b, h) || !multiple(h, c) {
		t.Error("not the greatest common divisor")
	}
}
