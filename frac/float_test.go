package frac_test

import (
	"fmt"
	"math"
	"math/bits"
	"strconv"
	"testing"

	"tessel/api"
	"tessel/frac"
	"tessel/proof"
	"tessel/zint"
)

// ofFloat tells what P3.1 says of a finite float, by Frexp.
func ofFloat(x float64) api.Q {
	part, exponent := math.Frexp(x)
	amount, power := int64(math.Ldexp(part, 53)), exponent-53
	if amount == 0 {
		return q(0, 1)
	}
	odd := bits.TrailingZeros64(uint64(amount))
	amount, power = amount>>odd, power+odd
	if power < 0 {
		return api.Q{Num: z(amount), Den: proof.Power2(-power)}
	}
	return api.Q{Num: zint.Mul(z(amount), proof.Power2(power)), Den: z(1)}
}

func isOf(t *testing.T, x float64, want api.Q) {
	t.Helper()
	got, e := frac.Of(x)
	proof.Taken(t, "Of("+strconv.FormatFloat(x, 'g', -1, 64)+")", got, e, want)
}

func TestOfEdges(t *testing.T) { // P3.1: 0 and -0, subnormal floats, the greatest, powers of two
	noughtPointOne := api.Q{Num: z(3602879701896397), Den: z(36028797018963968)}
	greatest := zint.Mul(z(1<<53-1), proof.Power2(971))
	for _, c := range []struct {
		x    float64
		want api.Q
	}{
		{0, q(0, 1)}, {1, q(1, 1)}, {0.5, q(1, 2)}, {1.5, q(3, 2)}, {3, q(3, 1)}, {10, q(10, 1)}, {0.1, noughtPointOne}, {1 << 60, q(1<<60, 1)}, {1<<53 - 1, q(1<<53-1, 1)}, {1 << 53, q(1<<53, 1)}, {1<<53 + 2, q(1<<53+2, 1)},
		{math.Ldexp(1, -1074), api.Q{Num: z(1), Den: proof.Power2(1074)}}, {math.Ldexp(3, -1074), api.Q{Num: z(3), Den: proof.Power2(1074)}}, {math.Ldexp(6, -1074), api.Q{Num: z(3), Den: proof.Power2(1073)}},
		{math.Ldexp(1<<52-1, -1074), api.Q{Num: z(1<<52 - 1), Den: proof.Power2(1074)}}, {math.Ldexp(1, -1022), api.Q{Num: z(1), Den: proof.Power2(1022)}}, {math.Ldexp(1<<52+1, -1074), api.Q{Num: z(1<<52 + 1), Den: proof.Power2(1074)}},
		{math.Ldexp(1<<53-1, -1074), api.Q{Num: z(1<<53 - 1), Den: proof.Power2(1074)}}, {math.Ldexp(1<<52+1, -1073), api.Q{Num: z(1<<52 + 1), Den: proof.Power2(1073)}},
		{math.MaxFloat64, api.Q{Num: greatest, Den: z(1)}}, {math.Ldexp(1, 1023), api.Q{Num: proof.Power2(1023), Den: z(1)}}, {1 + math.Ldexp(1, -52), api.Q{Num: z(1<<52 + 1), Den: proof.Power2(52)}},
	} {
		isOf(t, c.x, c.want)
		isOf(t, -c.x, api.Q{Num: zint.Neg(c.want.Num), Den: c.want.Den})
	}
	isOf(t, math.Copysign(0, -1), q(0, 1))
}

func TestOfNotFinite(t *testing.T) { // P3.1
	for _, x := range []float64{math.Inf(1), math.Inf(-1), math.NaN(), -math.NaN(), math.Float64frombits(0x7FF0000000000001), math.Float64frombits(0xFFFFFFFFFFFFFFFF)} {
		got, e := frac.Of(x)
		proof.Refused(t, fmt.Sprintf("Of(%x)", math.Float64bits(x)), got, e, api.ErrArg)
	}
}

func TestOfEachExponent(t *testing.T) { // P3.1
	d := proof.Dice(5)
	for exponent := range uint64(2047) {
		odd := uint64(d.Next(1<<26))<<26 | uint64(d.Next(1<<26))
		for _, fraction := range []uint64{0, 1, 1 << 51, 1<<52 - 1, odd} {
			x := math.Float64frombits(exponent<<52 | fraction)
			isOf(t, x, ofFloat(x))
			isOf(t, -x, ofFloat(-x))
		}
	}
}

func TestOfExactText(t *testing.T) { // P3.1: whole floats, held against the library's digits
	d := proof.Dice(6)
	for range 300 {
		x := math.Ldexp(float64(d.Next(1<<30)+1), d.Next(990))
		got, e := frac.Of(x)
		text, _ := frac.Text(got)
		if want := strconv.FormatFloat(x, 'f', 0, 64); e != api.OK || text != want {
			t.Errorf("Of(%g): %s, error %d, want %s", x, text, e, want)
		}
	}
}
