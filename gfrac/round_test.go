package gfrac_test

import (
	"fmt"
	"testing"

	"tessel/api"
	"tessel/frac"
	"tessel/gfrac"
	"tessel/proof"
	"tessel/zint"
)

// halfUp tells the floor of n / d + 1/2, of a d above 0.
func halfUp(n, d int64) int64 {
	n, d = 2*n+d, 2*d
	floor := n / d
	if n%d < 0 {
		floor--
	}
	return floor
}

func TestRoundOfSmall(t *testing.T) { // P7.2: halves in both parts among them
	for _, x := range smalls(9, 1, 2, 3, 4, 6) {
		for _, a := range forms(x.whole()) {
			got, e := gfrac.Round(a)
			proof.Taken(t, fmt.Sprint("Round of ", x), got, e, proof.G(halfUp(x.re, x.den), halfUp(x.im, x.den)))
		}
	}
}

// beside tells k + 1/2 + side / 2^80.
func beside(k api.Z, side int64) api.Q {
	den := proof.Power2(80)
	return api.Q{Num: zint.Add(zint.Add(zint.Mul(k, den), proof.Power2(79)), z(side)), Den: den}
}

func TestBorders(t *testing.T) { // P7.2: the square's sides: the lower and the left one belong to it, those across do not
	for _, k := range []api.Z{z(0), z(1), z(-1), z(-2), z(1 << 40), proof.Power2(90), zint.Neg(proof.Power2(90))} {
		above := zint.Add(k, z(1))
		rounded := map[int64]api.Z{-1: k, 0: above, 1: above}
		for reSide, re := range rounded {
			for imSide, im := range rounded {
				for _, a := range forms(api.C{Re: beside(k, reSide), Im: beside(k, imSide)}) {
					got, e := gfrac.Round(a)
					proof.Taken(t, fmt.Sprintf("Round of %s and a half, %d and %d beside it", zint.Text(k), reSide, imSide), got, e, api.G{Re: re, Im: im})
				}
			}
		}
	}
}

// isSide tells whether a rational is from -1/2 (included) to 1/2 (excluded).
func isSide(a api.Q) bool {
	low, _ := frac.Cmp(a, q(-1, 2))
	high, _ := frac.Cmp(a, q(1, 2))
	return low >= 0 && high < 0
}

func TestRoundOfLong(t *testing.T) { // P7.2, P7.4: a - Round(a) lies in the half-open square
	d := proof.Dice(5)
	for range 500 {
		a := some(&d, 6)
		got, e := gfrac.Round(a)
		proof.Taken(t, "Round of "+proof.Show(a), got, e, proof.Canon(got))
		rest, e := gfrac.Sub(a, gfrac.Of(got))
		if e != api.OK || !isSide(rest.Re) || !isSide(rest.Im) {
			t.Errorf("Round of %s: %s is left, error %d", proof.Show(a), proof.Show(rest), e)
		}
	}
}
