package frac_test

import (
	"fmt"
	"math"
	"testing"

	"tessel/api"
	"tessel/frac"
	"tessel/proof"
	"tessel/zint"
)

func TestRoundingsSmall(t *testing.T) { // P3.2: halves above and below 0 among them
	smalls(40, func(n, d int64) {
		m, c := n, d
		if d < 0 {
			m, c = -n, -d
		}
		floor := int64(math.Floor(float64(m) / float64(c)))
		half := int64(math.Floor((2*float64(m) + float64(c)) / (2 * float64(c))))
		for _, a := range []api.Q{q(n, d), proof.Longer(q(n, d))} {
			got, e := frac.Floor(a)
			proof.Taken(t, fmt.Sprintf("Floor(%d/%d)", n, d), got, e, z(floor))
			got, e = frac.Round(a)
			proof.Taken(t, fmt.Sprintf("Round(%d/%d)", n, d), got, e, z(half))
		}
	})
}

func TestHalves(t *testing.T) { // P3.2
	for _, k := range []api.Z{z(0), z(1), z(-1), z(2), z(-2), z(1 << 40), z(-1 << 62), proof.Power2(90), zint.Neg(proof.Power2(90))} {
		half := api.Q{Num: zint.Add(zint.Add(k, k), z(1)), Den: z(2)}
		above := zint.Add(k, z(1))
		for _, a := range proof.QForms(half) {
			got, e := frac.Floor(a)
			proof.Taken(t, fmt.Sprintf("Floor(%v)", a), got, e, k)
			got, e = frac.Round(a)
			proof.Taken(t, fmt.Sprintf("Round(%v), a half", a), got, e, above)
		}
		// A little less than the half, and a little more.
		for side, want := range map[int64]api.Z{-1: k, 1: above} {
			den := proof.Power2(80)
			a := api.Q{Num: zint.Add(zint.Add(zint.Mul(k, den), proof.Power2(79)), z(side)), Den: den}
			got, e := frac.Round(a)
			proof.Taken(t, fmt.Sprintf("Round(%v), beside a half", a), got, e, want)
		}
	}
}

func TestRoundingLaws(t *testing.T) { // P3.2, P3.4
	d, ok := proof.Dice(7), proof.Must[api.Q](t)
	inRange := func(what string, rest, from, below api.Q) {
		t.Helper()
		low, _ := frac.Cmp(rest, from)
		high, _ := frac.Cmp(rest, below)
		if low < 0 || high >= 0 {
			t.Errorf("%s: %v", what, rest)
		}
	}
	for range 1000 {
		a := d.Q(6)
		floor, e := frac.Floor(a)
		proof.Taken(t, "Floor, canonical", floor, e, proof.Number(floor.Neg, floor.Mag...))
		inRange("a - Floor(a)", ok(frac.Sub(a, api.Q{Num: floor, Den: z(1)})), q(0, 1), q(1, 1))
		round, e := frac.Round(a)
		proof.Taken(t, "Round, canonical", round, e, proof.Number(round.Neg, round.Mag...))
		inRange("a - Round(a)", ok(frac.Sub(a, api.Q{Num: round, Den: z(1)})), q(-1, 2), q(1, 2))
	}
}

func TestPowSmall(t *testing.T) { // P3.2
	smalls(7, func(n, d int64) {
		num, den := int64(1), int64(1)
		for k := range 12 {
			for _, a := range []api.Q{q(n, d), proof.Longer(q(n, d))} {
				got, e := frac.Pow(a, k)
				amounts(t, fmt.Sprintf("Pow(%d/%d, %d)", n, d, k), got, e, z(num), z(den))
			}
			num, den = num*n, den*d
		}
	})
}

func TestPowAnyN(t *testing.T) { // P3.2: of 0, 1 and -1 all powers are taken
	for n, isOdd := range map[int]bool{0: false, 1: true, 2: false, 3: true, 65536: false, 65537: true, 1 << 40: false, 1 << 62: false, 1<<62 + 1: true, math.MaxInt - 1: false, math.MaxInt: true} {
		for _, a := range proof.QForms(q(1, 1)) {
			got, e := frac.Pow(a, n)
			proof.Taken(t, fmt.Sprintf("Pow(%v, %d)", a, n), got, e, q(1, 1))
		}
		turned, nought := q(1, 1), q(0, 1)
		if isOdd {
			turned = q(-1, 1)
		}
		if n == 0 {
			nought = q(1, 1)
		}
		for _, a := range proof.QForms(q(-1, 1)) {
			got, e := frac.Pow(a, n)
			proof.Taken(t, fmt.Sprintf("Pow(%v, %d)", a, n), got, e, turned)
		}
		for _, a := range proof.QForms(q(0, 3)) {
			got, e := frac.Pow(a, n)
			proof.Taken(t, fmt.Sprintf("Pow(%v, %d)", a, n), got, e, nought)
		}
	}
}

func TestPowBelowZero(t *testing.T) { // P3.2
	for _, n := range []int{-1, -2, -65537, math.MinInt} {
		for _, a := range []api.Q{q(0, 1), q(1, 1), q(-1, 1), q(1, 2), q(-7, 3), proof.Longer(q(2, -1)), {Num: proof.Power2(70000), Den: z(1)}} {
			got, e := frac.Pow(a, n)
			proof.Refused(t, fmt.Sprintf("Pow(%v, %d)", a, n), got, e, api.ErrArg)
		}
	}
}

// sized tells numbers of so many bits: the least, the greatest, and one between.
func sized(size int) []api.Z {
	return []api.Z{proof.Power2(size - 1), zint.Sub(proof.Power2(size), z(1)), zint.Add(proof.Power2(size-1), z(1))}
}

func TestPowLimit(t *testing.T) { // P3.2: at the border of ErrLimit, by the numerator's bits and by the denominator's
	for _, size := range []int{2, 3, 5, 31, 32, 33, 64, 255, 1000, 32767, 32768, 32769, 65535, 65536, 65537, 65568, 131072} {
		top := api.MaxShift / size
		for _, a := range sized(size) {
			for _, b := range []api.Q{{Num: a, Den: z(1)}, {Num: z(1), Den: a}, {Num: zint.Neg(a), Den: z(1)}, {Num: z(-1), Den: a}, proof.Longer(proof.Times(api.Q{Num: a, Den: z(1)}, z(-3)))} {
				for _, n := range []int{top + 1, top + 2, math.MaxInt} {
					got, e := frac.Pow(b, n)
					proof.Refused(t, fmt.Sprintf("Pow of %d bits, %d", size, n), got, e, api.ErrLimit)
				}
				if _, e := frac.Pow(b, top); e != api.OK {
					t.Errorf("Pow of %d bits, %d: error %d", size, top, e)
				}
				got, e := frac.Pow(b, 0)
				proof.Taken(t, fmt.Sprintf("Pow of %d bits, 0", size), got, e, q(1, 1))
			}
		}
	}
}

func TestPowOfTwoAtLimit(t *testing.T) { // P3.2
	for n := 1; n <= 32768; n = n*2 + n%3%2 {
		got, e := frac.Pow(q(2, 1), n)
		proof.Taken(t, fmt.Sprint("2^", n), got, e, api.Q{Num: proof.Power2(n), Den: z(1)})
		got, e = frac.Pow(q(3, 6), n)
		proof.Taken(t, fmt.Sprint("(1/2)^", n), got, e, api.Q{Num: z(1), Den: proof.Power2(n)})
	}
	got, e := frac.Pow(q(-2, 1), 32768)
	proof.Taken(t, "(-2)^32768", got, e, api.Q{Num: proof.Power2(32768), Den: z(1)})
	got, e = frac.Pow(q(1, -2), 32767)
	proof.Taken(t, "(-1/2)^32767", got, e, api.Q{Num: z(-1), Den: proof.Power2(32767)})
}

func TestPowLowestTerms(t *testing.T) { // P3.2: the limit goes by lowest terms
	common := proof.Power2(70000)
	for n, want := range map[int]api.Q{0: q(1, 1), 1: q(-3, 5), 2: q(9, 25), 3: q(-27, 125)} {
		got, e := frac.Pow(api.Q{Num: zint.Mul(common, z(-3)), Den: zint.Mul(common, z(5))}, n)
		proof.Taken(t, fmt.Sprintf("Pow of a number with a long common divisor, %d", n), got, e, want)
	}
	got, e := frac.Pow(api.Q{Num: common, Den: zint.Neg(common)}, math.MaxInt)
	proof.Taken(t, "Pow of a long form of -1", got, e, q(-1, 1))
	// 2/3: the denominator has as many bits as the numerator; 1/4: it has more.
	for a, top := range map[[2]int64]int{{2, 3}: 32768, {1, 4}: 21845, {8, 3}: 16384, {6, 4}: 32768, {16, -8}: 32768} {
		if _, e := frac.Pow(q(a[0], a[1]), top); e != api.OK {
			t.Errorf("Pow(%v, %d): error %d", a, top, e)
		}
		got, e := frac.Pow(q(a[0], a[1]), top+1)
		proof.Refused(t, fmt.Sprintf("Pow(%v, %d)", a, top+1), got, e, api.ErrLimit)
	}
}

func TestPowLaws(t *testing.T) { // P3.2: on long numbers
	d, ok := proof.Dice(8), proof.Must[api.Q](t)
	for range 150 {
		a, n, m := d.Q(4), d.Next(20), d.Next(20)
		product := ok(frac.Mul(ok(frac.Pow(a, n)), ok(frac.Pow(a, m))))
		got, e := frac.Pow(a, n+m)
		proof.Taken(t, fmt.Sprintf("Pow(%v, %d + %d)", a, n, m), got, e, product)
		got, e = frac.Pow(a, 1)
		proof.Taken(t, "a^1", got, e, ok(frac.Make(a.Num, a.Den)))
	}
}
