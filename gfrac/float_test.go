package gfrac_test

import (
	"fmt"
	"math"
	"testing"

	"tessel/api"
	"tessel/frac"
	"tessel/gfrac"
	"tessel/proof"
	"tessel/zint"
)

func TestOfFloatEdges(t *testing.T) { // P7.1: 0 and -0, subnormal floats, the greatest, powers of two
	greatest := api.Q{Num: zint.Mul(z(1<<53-1), proof.Power2(971)), Den: z(1)}
	cases := []struct {
		x    float64
		want api.Q
	}{
		{0, q(0, 1)}, {math.Copysign(0, -1), q(0, 1)}, {1, q(1, 1)}, {0.5, q(1, 2)}, {-0.25, q(-1, 4)}, {-3, q(-3, 1)}, {0.1, q(3602879701896397, 36028797018963968)},
		{math.MaxFloat64, greatest}, {-math.MaxFloat64, api.Q{Num: zint.Neg(greatest.Num), Den: z(1)}}, {math.Ldexp(1, 1023), api.Q{Num: proof.Power2(1023), Den: z(1)}},
		{math.Ldexp(1, -1074), api.Q{Num: z(1), Den: proof.Power2(1074)}}, {math.Ldexp(-1, -1074), api.Q{Num: z(-1), Den: proof.Power2(1074)}}, {math.Ldexp(1, -1022), api.Q{Num: z(1), Den: proof.Power2(1022)}}, {math.Ldexp(1<<52-1, -1074), api.Q{Num: z(1<<52 - 1), Den: proof.Power2(1074)}},
	}
	for _, re := range cases {
		for _, im := range cases {
			got, e := gfrac.OfFloat(complex(re.x, im.x))
			proof.Taken(t, fmt.Sprintf("OfFloat(%g, %g)", re.x, im.x), got, e, api.C{Re: re.want, Im: im.want})
		}
	}
}

func TestOfFloatNotFinite(t *testing.T) { // P7.1: in either part, or in both
	wrong := []float64{math.Inf(1), math.Inf(-1), math.NaN(), -math.NaN(), math.Float64frombits(0x7FF0000000000001), math.Float64frombits(0xFFFFFFFFFFFFFFFF)}
	for _, x := range wrong {
		for _, y := range append([]float64{0, -1.5, math.MaxFloat64, math.Ldexp(1, -1074)}, wrong...) {
			for _, parts := range [][2]float64{{x, y}, {y, x}} {
				got, e := gfrac.OfFloat(complex(parts[0], parts[1]))
				proof.Refused(t, fmt.Sprintf("OfFloat of the bits %x, %x", math.Float64bits(parts[0]), math.Float64bits(parts[1])), got, e, api.ErrArg)
			}
		}
	}
}

func TestOfFloatEachExponent(t *testing.T) { // P7.1: held against frac, part by part
	d, ok := proof.Dice(6), proof.Must[api.Q](t)
	for exponent := range uint64(2047) {
		re := math.Float64frombits(exponent<<52 | uint64(d.Digit()))
		im := -math.Float64frombits((2046-exponent)<<52 | uint64(d.Digit())<<20)
		got, e := gfrac.OfFloat(complex(re, im))
		proof.Taken(t, fmt.Sprintf("OfFloat(%g, %g)", re, im), got, e, api.C{Re: ok(frac.Of(re)), Im: ok(frac.Of(im))})
	}
}
