package gint_test

import (
	"fmt"
	"testing"

	"tessel/api"
	"tessel/gint"
	"tessel/proof"
	"tessel/zint"
)

func divides(t *testing.T, a, b, q, r api.G) {
	t.Helper()
	gotQ, gotR, e := gint.RoundDiv(a, b)
	what := fmt.Sprintf("RoundDiv(%s, %s)", show(a), show(b))
	proof.Taken(t, what+": q", gotQ, e, q)
	proof.Taken(t, what+": r", gotR, e, r)
}

func exactly(t *testing.T, a, b, want api.G) {
	t.Helper()
	got, e := gint.Exact(a, b)
	proof.Taken(t, fmt.Sprintf("Exact(%s, %s)", show(a), show(b)), got, e, want)
}

func inexact(t *testing.T, a, b api.G) {
	t.Helper()
	got, e := gint.Exact(a, b)
	proof.Refused(t, fmt.Sprintf("Exact(%s, %s)", show(a), show(b)), got, e, api.ErrInexact)
}

func TestDivisionsAgainstMachine(t *testing.T) { // P4.3
	for _, x := range square(6) {
		for _, y := range square(4) {
			if y.norm() == 0 {
				continue
			}
			q := x.over(y)
			r := x.less(q.times(y))
			for k, a := range proof.Forms(x.whole()) {
				b := proof.Forms(y.whole())[3-k]
				divides(t, a, b, q.whole(), r.whole())
				if r.norm() == 0 {
					exactly(t, a, b, q.whole())
				} else {
					inexact(t, a, b)
				}
			}
		}
	}
}

func TestBorders(t *testing.T) { // P4.3: the square's sides: the lower and the left one belong to it, those across do not
	for _, c := range []struct{ a, b, q, r small }{
		{small{1, 0}, small{2, 0}, small{1, 0}, small{-1, 0}}, {small{-1, 0}, small{2, 0}, small{0, 0}, small{-1, 0}},
		{small{0, 1}, small{2, 0}, small{0, 1}, small{0, -1}}, {small{0, -1}, small{2, 0}, small{0, 0}, small{0, -1}},
		{small{1, 1}, small{2, 0}, small{1, 1}, small{-1, -1}}, {small{1, -1}, small{2, 0}, small{1, 0}, small{-1, -1}},
		{small{-1, 1}, small{2, 0}, small{0, 1}, small{-1, -1}}, {small{-1, -1}, small{2, 0}, small{0, 0}, small{-1, -1}},
		{small{1, 0}, small{-2, 0}, small{0, 0}, small{1, 0}}, {small{1, 1}, small{-2, 0}, small{0, 0}, small{1, 1}},
		{small{1, 0}, small{0, 2}, small{0, 0}, small{1, 0}}, {small{-1, 0}, small{0, 2}, small{0, 1}, small{1, 0}},
		{small{0, 1}, small{0, 2}, small{1, 0}, small{0, -1}}, {small{0, 1}, small{0, -2}, small{0, 0}, small{0, 1}},
		{small{1, 0}, small{1, 1}, small{1, 0}, small{0, -1}}, {small{1, 0}, small{-1, 1}, small{0, 0}, small{1, 0}},
		{small{1, 0}, small{-1, -1}, small{0, 1}, small{0, 1}}, {small{1, 0}, small{1, -1}, small{1, 1}, small{-1, 0}},
	} {
		divides(t, c.a.whole(), c.b.whole(), c.q.whole(), c.r.whole())
	}
}

func TestDivisionByZero(t *testing.T) { // P4.3
	for _, a := range samples() {
		for _, b := range proof.GNoughts() {
			what := fmt.Sprintf("(%v, %v)", a, b)
			q, r, e := gint.RoundDiv(a, b)
			proof.Refused(t, "RoundDiv"+what+": q", q, e, api.ErrZero)
			proof.Refused(t, "RoundDiv"+what+": r", r, e, api.ErrZero)
			got, e := gint.Exact(a, b)
			proof.Refused(t, "Exact"+what, got, e, api.ErrZero)
		}
	}
}

// isSide tells whether x / y is from -1/2 (included) to 1/2 (excluded), of a y above 0.
func isSide(x, y api.Z) bool {
	twice := zint.Add(x, x)
	return zint.Cmp(twice, zint.Neg(y)) >= 0 && zint.Cmp(twice, y) < 0
}

func TestDivisionsOfLong(t *testing.T) { // P4.3, P4.7: a is q b + r, and r / b in the half-open square
	d := proof.Dice(5)
	for range 600 {
		a, b := d.G(12), d.GNotZero(1+d.Next(9))
		what := fmt.Sprintf("RoundDiv(%s, %s)", show(a), show(b))
		q, r, e := gint.RoundDiv(a, b)
		proof.Taken(t, what+": q", q, e, proof.Canon(q))
		proof.Taken(t, what+": r", r, e, difference(a, product(q, b)))
		place := product(r, api.G{Re: b.Re, Im: zint.Neg(b.Im)})
		norm := gint.Norm(b)
		if !isSide(place.Re, norm) || !isSide(place.Im, norm) {
			t.Errorf("%s: %s lies outside of the square", what, show(r))
		}
		if twice := gint.Norm(r); zint.Cmp(zint.Add(twice, twice), norm) > 0 {
			t.Errorf("%s: the norm of %s is above half of the divisor's", what, show(r))
		}
		exactly(t, product(a, b), b, proof.Canon(a))
		off := []api.G{g(1, 0), g(0, 1), g(-1, 0), g(1, -1)}[d.Next(4)]
		if zint.Cmp(norm, z(2)) > 0 {
			inexact(t, sum(product(a, b), off), b)
		}
	}
}

func TestExactEdges(t *testing.T) { // P4.3
	for _, a := range samples() {
		exactly(t, a, g(1, 0), proof.Canon(a))
		exactly(t, a, g(-1, 0), gint.Neg(a))
		exactly(t, a, g(0, 1), gint.Turn(a, 3))
		exactly(t, a, g(0, -1), gint.Turn(a, 1))
		if !isZero(a) {
			exactly(t, a, a, g(1, 0))
			exactly(t, api.G{}, a, g(0, 0))
		}
	}
	inexact(t, g(2, 1), g(2, 0)) // one part comes out, the other one doesn't
	inexact(t, g(1, 2), g(2, 0))
	inexact(t, g(3, 0), g(1, 1))
	inexact(t, g(1, 0), g(2, 1))
	exactly(t, g(2, 0), g(1, 1), g(1, -1))
}
