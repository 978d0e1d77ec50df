package frac_test

import (
	"slices"
	"testing"

	"tessel/api"
	"tessel/zint"
)

// number tells a canonical whole number of its digits, the lowest one first.
func number(neg bool, digits ...uint32) api.Z {
	for len(digits) > 0 && digits[len(digits)-1] == 0 {
		digits = digits[:len(digits)-1]
	}
	return api.Z{Neg: neg && len(digits) > 0, Mag: digits}
}

func z(n int64) api.Z {
	amount := uint64(n)
	if n < 0 {
		amount = -amount
	}
	return number(n < 0, uint32(amount), uint32(amount>>32))
}

func power2(n int) api.Z {
	digits := make([]uint32, n/32+1)
	digits[n/32] = 1 << (n % 32)
	return number(false, digits...)
}

// q tells n / d as it is handed in: in lowest terms or not, d of any sign, or 0.
func q(n, d int64) api.Q { return api.Q{Num: z(n), Den: z(d)} }

// low tells n / d as it must be answered: the common divisors are found by trial. d is not 0.
func low(n, d int64) api.Q {
	for k := max(n, -n, d, -d); k > 1; k-- {
		if n%k == 0 && d%k == 0 {
			n, d = n/k, d/k
		}
	}
	if d < 0 {
		n, d = -n, -d
	}
	return q(n, d)
}

func freshZ(a api.Z) api.Z { return api.Z{Neg: a.Neg, Mag: slices.Clone(a.Mag)} }

func fresh(a api.Q) api.Q { return api.Q{Num: freshZ(a.Num), Den: freshZ(a.Den)} }

// longerZ tells the same number in another form: with digits 0 at the top, and 0 with the other sign.
func longerZ(a api.Z) api.Z {
	zero := len(number(false, a.Mag...).Mag) == 0
	return api.Z{Neg: a.Neg != zero, Mag: append(slices.Clone(a.Mag), 0, 0)}
}

func longer(a api.Q) api.Q { return api.Q{Num: longerZ(a.Num), Den: longerZ(a.Den)} }

// times tells the same rational, both of its numbers times k.
func times(a api.Q, k api.Z) api.Q {
	return api.Q{Num: zint.Mul(a.Num, k), Den: zint.Mul(a.Den, k)}
}

// forms are some in which one rational may be handed in.
func forms(a api.Q) []api.Q {
	return []api.Q{a, longer(a), times(a, z(-1)), longer(times(a, z(-6))), times(a, z(1<<40))}
}

// hollows are forms of what is no rational: a number over 0.
func hollows() []api.Q {
	var list []api.Q
	for _, den := range []api.Z{{}, {Neg: true}, {Mag: []uint32{0}}, {Neg: true, Mag: []uint32{0, 0, 0}}} {
		for _, num := range []api.Z{{}, z(1), z(-7), power2(70), longerZ(z(3)), longerZ(z(0))} {
			list = append(list, api.Q{Num: freshZ(num), Den: freshZ(den)})
		}
	}
	return list
}

func alikeZ(a, b api.Z) bool { return a.Neg == b.Neg && slices.Equal(a.Mag, b.Mag) }

func alike(a, b api.Q) bool { return alikeZ(a.Num, b.Num) && alikeZ(a.Den, b.Den) }

// taken tells where a call doesn't answer what is wanted, as it lies there: want is in lowest terms and canonical.
func taken(t *testing.T, what string, got api.Q, e api.Errno, want api.Q) {
	t.Helper()
	if e != api.OK || !alike(got, want) {
		t.Errorf("%s: %v, error %d, want %v", what, got, e, want)
	}
}

// takenZ is taken of whole numbers.
func takenZ(t *testing.T, what string, got api.Z, e api.Errno, want api.Z) {
	t.Helper()
	if e != api.OK || !alikeZ(got, want) {
		t.Errorf("%s: %v, error %d, want %v", what, got, e, want)
	}
}

// refused tells where a call isn't refused as it should be, or answers something beside the error.
func refused(t *testing.T, what string, got api.Q, e, want api.Errno) {
	t.Helper()
	if e != want || !isZero(got.Num) || !isZero(got.Den) {
		t.Errorf("%s: %v, error %d, want error %d", what, got, e, want)
	}
}

// isZero tells whether it is a Z's zero value.
func isZero(a api.Z) bool { return !a.Neg && len(a.Mag) == 0 }

// isLow tells whether a rational is as it must be answered: canonical, in lowest terms, its Den above 0.
func isLow(a api.Q) bool {
	canonical := alikeZ(a.Num, number(a.Num.Neg, a.Num.Mag...)) && alikeZ(a.Den, number(false, a.Den.Mag...))
	return canonical && len(a.Den.Mag) > 0 && alikeZ(zint.Gcd(a.Num, a.Den), z(1))
}

// amounts tells where a rational isn't n / d, or isn't as it must be answered: that leaves one answer alone. d is not 0.
func amounts(t *testing.T, what string, got api.Q, e api.Errno, n, d api.Z) {
	t.Helper()
	if e != api.OK || !isLow(got) || !alikeZ(zint.Mul(got.Num, d), zint.Mul(n, got.Den)) {
		t.Errorf("%s: %v, error %d, want %s / %s", what, got, e, zint.Text(n), zint.Text(d))
	}
}

// dice: numbers that come in the same order at each run.
type dice uint64

func (d *dice) next(n int) int {
	*d = *d*6364136223846793005 + 1442695040888963407
	return int(uint64(*d) >> 33 % uint64(n))
}

// whole tells a number of at most size digits, canonical or not.
func (d *dice) whole(size int) api.Z {
	edges := []uint32{0, 1, 2, 1<<31 - 1, 1 << 31, 1<<32 - 1}
	digits := make([]uint32, d.next(size+1))
	for i := range digits {
		digits[i] = uint32(d.next(1<<16)<<16 | d.next(1<<16))
		if k := d.next(2 * len(edges)); k < len(edges) {
			digits[i] = edges[k]
		}
	}
	return api.Z{Neg: d.next(2) == 1, Mag: append(digits, make([]uint32, d.next(3)/2)...)}
}

// divisor tells a whole number that is not 0.
func (d *dice) divisor(size int) api.Z {
	for {
		if a := d.whole(size); zint.Sign(a) != 0 {
			return a
		}
	}
}

// rational tells one in lowest terms or not, of a Den of either sign.
func (d *dice) rational(size int) api.Q {
	a := api.Q{Num: d.whole(size), Den: d.divisor(size)}
	if d.next(2) == 1 {
		a = times(a, d.divisor(2))
	}
	return a
}

// samples are rationals of all kinds, and what is none.
func samples() []api.Q {
	list := append(hollows()[:4], q(0, 1), q(0, -3), longer(q(0, 5)), q(1, 1), q(-1, 1), q(4, 4), q(2, -2), q(1, 2), q(-3, 2), q(5, -2), q(6, 4), q(7, 1), longer(q(-9, 6)))
	list = append(list, api.Q{Num: power2(64), Den: power2(33)}, api.Q{Num: z(-1), Den: power2(96)})
	d := dice(1)
	for range 6 {
		list = append(list, d.rational(5))
	}
	return list
}
