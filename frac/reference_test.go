package frac_test

import (
	"testing"

	"tessel/api"
	"tessel/proof"
	"tessel/zint"
)

func z(n int64) api.Z { return proof.Z(n) }

// q tells n / d as it is handed in: in lowest terms or not, d of any sign, or 0.
func q(n, d int64) api.Q { return api.Q{Num: z(n), Den: z(d)} }

// low tells n / d as it must be answered: the common divisors are found by trial. d is not 0.
func low(n, d int64) api.Q {
	for k := max(n, -n, d, -d); k > 1; k-- {
		if n%k == 0 && d%k == 0 {
			n, d = n/k, d/k
		}
	}
	if d < 0 {
		n, d = -n, -d
	}
	return q(n, d)
}

// times tells the same rational, both of its numbers times k.
func times(a api.Q, k api.Z) api.Q {
	return api.Q{Num: zint.Mul(a.Num, k), Den: zint.Mul(a.Den, k)}
}

// forms are some in which one rational may be handed in.
func forms(a api.Q) []api.Q {
	return []api.Q{a, proof.Longer(a), times(a, z(-1)), proof.Longer(times(a, z(-6))), times(a, z(1<<40))}
}

// hollows are forms of what is no rational: a number over 0.
func hollows() []api.Q {
	var list []api.Q
	for _, den := range []api.Z{{}, {Neg: true}, {Mag: []uint32{0}}, {Neg: true, Mag: []uint32{0, 0, 0}}} {
		for _, num := range []api.Z{{}, z(1), z(-7), proof.Power2(70), proof.Longer(z(3)), proof.Longer(z(0))} {
			list = append(list, api.Q{Num: proof.Fresh(num), Den: proof.Fresh(den)})
		}
	}
	return list
}

// isZero tells whether it is a Z's zero value.
func isZero(a api.Z) bool { return !a.Neg && len(a.Mag) == 0 }

// isLow tells whether a rational is as it must be answered: canonical, in lowest terms, its Den above 0.
func isLow(a api.Q) bool {
	canonical := proof.Alike(a.Num, proof.Number(a.Num.Neg, a.Num.Mag...)) && proof.Alike(a.Den, proof.Number(false, a.Den.Mag...))
	return canonical && len(a.Den.Mag) > 0 && proof.Alike(zint.Gcd(a.Num, a.Den), z(1))
}

// amounts tells where a rational isn't n / d, or isn't as it must be answered: that leaves one answer alone. d is not 0.
func amounts(t *testing.T, what string, got api.Q, e api.Errno, n, d api.Z) {
	t.Helper()
	if e != api.OK || !isLow(got) || !proof.Alike(zint.Mul(got.Num, d), zint.Mul(n, got.Den)) {
		t.Errorf("%s: %v, error %d, want %s / %s", what, got, e, zint.Text(n), zint.Text(d))
	}
}

// rational tells one in lowest terms or not, of a Den of either sign.
func rational(d *proof.Dice, size int) api.Q {
	a := api.Q{Num: d.Z(size), Den: d.ZNotZero(size)}
	if d.Next(2) == 1 {
		a = times(a, d.ZNotZero(2))
	}
	return a
}

// samples are rationals of all kinds, and what is none.
func samples() []api.Q {
	list := append(hollows()[:4], q(0, 1), q(0, -3), proof.Longer(q(0, 5)), q(1, 1), q(-1, 1), q(4, 4), q(2, -2), q(1, 2), q(-3, 2), q(5, -2), q(6, 4), q(7, 1), proof.Longer(q(-9, 6)))
	list = append(list, api.Q{Num: proof.Power2(64), Den: proof.Power2(33)}, api.Q{Num: z(-1), Den: proof.Power2(96)})
	d := proof.Dice(1)
	for range 6 {
		list = append(list, rational(&d, 5))
	}
	return list
}
