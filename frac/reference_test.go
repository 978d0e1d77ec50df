package frac_test

import (
	"testing"

	"tessel/api"
	"tessel/proof"
	"tessel/zint"
)

func z(n int64) api.Z { return proof.Z(n) }

func q(n, d int64) api.Q { return proof.Q(n, d) }

// isZero tells whether it is a Z's zero value.
func isZero(a api.Z) bool { return !a.Neg && len(a.Mag) == 0 }

// isLow tells whether a rational is as it must be answered: canonical, in lowest terms, its Den above 0.
func isLow(a api.Q) bool {
	canonical := proof.Alike(a.Num, proof.Number(a.Num.Neg, a.Num.Mag...)) && proof.Alike(a.Den, proof.Number(false, a.Den.Mag...))
	return canonical && len(a.Den.Mag) > 0 && proof.Alike(zint.Gcd(a.Num, a.Den), z(1))
}

// amounts tells where a rational isn't n / d, or isn't as it must be answered: that leaves one answer alone. d is not 0.
func amounts(t *testing.T, what string, got api.Q, e api.Errno, n, d api.Z) {
	t.Helper()
	if e != api.OK || !isLow(got) || !proof.Alike(zint.Mul(got.Num, d), zint.Mul(n, got.Den)) {
		t.Errorf("%s: %v, error %d, want %s / %s", what, got, e, zint.Text(n), zint.Text(d))
	}
}

// samples are rationals of all kinds, and what is none.
func samples() []api.Q {
	list := append(proof.Hollows()[:4], q(0, 1), q(0, -3), proof.Longer(q(0, 5)), q(1, 1), q(-1, 1), q(4, 4), q(2, -2), q(1, 2), q(-3, 2), q(5, -2), q(6, 4), q(7, 1), proof.Longer(q(-9, 6)))
	list = append(list, api.Q{Num: proof.Power2(64), Den: proof.Power2(33)}, api.Q{Num: z(-1), Den: proof.Power2(96)})
	d := proof.Dice(1)
	for range 6 {
		list = append(list, d.Q(5))
	}
	return list
}
