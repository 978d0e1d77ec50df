package frac_test

import (
	"cmp"
	"fmt"
	"math"
	"testing"

	"tessel/api"
	"tessel/frac"
	"tessel/proof"
	"tessel/zint"
)

// operation is what makes a rational of two.
type operation func(a, b api.Q) (api.Q, api.Errno)

// operations by name, and what they make of n / d and m / c.
type namedOperation struct {
	name string
	play operation
	want func(n, d, m, c int64) (num, den int64)
}

func operations() []namedOperation {
	return []namedOperation{
		{"Add", frac.Add, func(n, d, m, c int64) (int64, int64) { return n*c + m*d, d * c }},
		{"Sub", frac.Sub, func(n, d, m, c int64) (int64, int64) { return n*c - m*d, d * c }},
		{"Mul", frac.Mul, func(n, d, m, c int64) (int64, int64) { return n * m, d * c }},
		{"Quo", frac.Quo, func(n, d, m, c int64) (int64, int64) { return n * c, d * m }},
	}
}

// smalls calls test with each n / d of small numbers, d above 0 or below.
func smalls(size int64, test func(n, d int64)) {
	for n := -size; n <= size; n++ {
		for d := -size; d <= size; d++ {
			if d != 0 {
				test(n, d)
			}
		}
	}
}

func TestMakeSmall(t *testing.T) { // P3.1
	smalls(40, func(n, d int64) {
		got, e := frac.Make(z(n), z(d))
		proof.Taken(t, fmt.Sprintf("Make(%d, %d)", n, d), got, e, proof.Low(n, d))
		got, e = frac.Make(proof.Longer(z(n)), proof.Longer(z(d)))
		proof.Taken(t, fmt.Sprintf("Make(%d, %d) with noughts", n, d), got, e, proof.Low(n, d))
	})
}

func TestMakeEdges(t *testing.T) { // P3.1
	for _, c := range []struct {
		n, d api.Z
		want api.Q
	}{
		{z(6), z(-4), q(-3, 2)}, {z(0), z(-3), q(0, 1)}, {api.Z{Neg: true}, z(-1), q(0, 1)}, {z(math.MinInt64), z(-1), api.Q{Num: proof.Power2(63), Den: z(1)}},
		{z(1), z(math.MinInt64), api.Q{Num: z(-1), Den: proof.Power2(63)}}, {z(math.MinInt64), z(math.MinInt64), q(1, 1)},
		{proof.Power2(200), proof.Power2(199), q(2, 1)}, {proof.Power2(199), proof.Power2(200), q(1, 2)}, {zint.Neg(proof.Power2(64)), proof.Power2(64), q(-1, 1)},
	} {
		got, e := frac.Make(c.n, c.d)
		proof.Taken(t, fmt.Sprintf("Make(%v, %v)", c.n, c.d), got, e, c.want)
	}
	for _, a := range proof.Hollows() {
		got, e := frac.Make(a.Num, a.Den)
		proof.Refused(t, fmt.Sprintf("Make(%v, %v)", a.Num, a.Den), got, e, api.ErrZero)
	}
}

func TestMakeLong(t *testing.T) { // P3.1
	d := proof.Dice(2)
	for range 1500 {
		common := d.ZNotZero(4)
		n, m := zint.Mul(common, d.Z(6)), zint.Mul(common, d.ZNotZero(6))
		got, e := frac.Make(n, m)
		amounts(t, fmt.Sprintf("Make(%v, %v)", n, m), got, e, n, m)
	}
}

func TestFieldSmall(t *testing.T) { // P3.1
	for _, o := range operations() {
		smalls(5, func(n, d int64) {
			smalls(5, func(m, c int64) {
				what := fmt.Sprintf("%s(%d/%d, %d/%d)", o.name, n, d, m, c)
				got, e := o.play(q(n, d), q(m, c))
				num, den := o.want(n, d, m, c)
				if den == 0 {
					proof.Refused(t, what, got, e, api.ErrZero)
					return
				}
				proof.Taken(t, what, got, e, proof.Low(num, den))
			})
		})
	}
}

func TestFieldForms(t *testing.T) { // P3.1: digits 0 at the top, Neg of 0, signs and common divisors make no difference
	for _, o := range operations() {
		smalls(3, func(n, d int64) {
			smalls(2, func(m, c int64) {
				want, wantE := o.play(q(n, d), q(m, c))
				for _, a := range proof.QForms(q(n, d)) {
					for _, b := range proof.QForms(q(m, c)) {
						if got, e := o.play(a, b); e != wantE || !proof.Alike(got, want) {
							t.Errorf("%s(%v, %v): %v, error %d, want %v, error %d", o.name, a, b, got, e, want, wantE)
						}
					}
				}
			})
		})
	}
}

func TestDenZero(t *testing.T) { // each call but Of and Parse: a Den of 0, on either side, whatever else is wrong
	for _, a := range proof.Hollows() {
		for _, b := range append(proof.Hollows(), q(0, 1), q(0, -2), q(1, 2), q(-3, 1)) {
			for _, o := range operations() {
				got, e := o.play(a, b)
				proof.Refused(t, fmt.Sprintf("%s(%v, %v)", o.name, a, b), got, e, api.ErrZero)
				got, e = o.play(b, a)
				proof.Refused(t, fmt.Sprintf("%s(%v, %v)", o.name, b, a), got, e, api.ErrZero)
			}
			if got, e := frac.Cmp(a, b); got != 0 || e != api.ErrZero {
				t.Errorf("Cmp(%v, %v): %d, error %d", a, b, got, e)
			}
			if got, e := frac.Cmp(b, a); got != 0 || e != api.ErrZero {
				t.Errorf("Cmp(%v, %v): %d, error %d", b, a, got, e)
			}
		}
		for name, f := range map[string]func(api.Q) (api.Z, api.Errno){"Floor": frac.Floor, "Round": frac.Round} {
			if got, e := f(a); e != api.ErrZero || !isZero(got) {
				t.Errorf("%s(%v): %v, error %d", name, a, got, e)
			}
		}
		for _, n := range []int{0, 1, 2, -1, math.MaxInt, math.MinInt} {
			got, e := frac.Pow(a, n)
			proof.Refused(t, fmt.Sprintf("Pow(%v, %d)", a, n), got, e, api.ErrZero)
		}
		if got, e := frac.Text(a); got != "" || e != api.ErrZero {
			t.Errorf("Text(%v): %s, error %d", a, got, e)
		}
	}
}

func TestQuoByZero(t *testing.T) { // P3.1
	for _, a := range []api.Q{q(0, 1), q(1, 2), q(-3, 1), {Num: proof.Power2(100), Den: z(-3)}} {
		for _, b := range proof.QForms(q(0, 7)) {
			got, e := frac.Quo(a, b)
			proof.Refused(t, fmt.Sprintf("Quo(%v, %v)", a, b), got, e, api.ErrZero)
		}
	}
}

func TestFieldLong(t *testing.T) { // P3.1: the only answer, on long numbers
	d := proof.Dice(3)
	for range 1500 {
		a, b := d.Q(6), d.Q(6)
		what := fmt.Sprintf("of %v and %v", a, b)
		left, right, den := zint.Mul(a.Num, b.Den), zint.Mul(b.Num, a.Den), zint.Mul(a.Den, b.Den)
		got, e := frac.Add(a, b)
		amounts(t, "Add "+what, got, e, zint.Add(left, right), den)
		got, e = frac.Sub(a, b)
		amounts(t, "Sub "+what, got, e, zint.Sub(left, right), den)
		got, e = frac.Mul(a, b)
		amounts(t, "Mul "+what, got, e, zint.Mul(a.Num, b.Num), den)
		got, e = frac.Quo(a, b)
		if zint.Sign(b.Num) == 0 {
			proof.Refused(t, "Quo "+what, got, e, api.ErrZero)
			continue
		}
		amounts(t, "Quo "+what, got, e, left, right)
	}
}

func TestCmpSmall(t *testing.T) { // P3.1
	smalls(6, func(n, d int64) {
		smalls(6, func(m, c int64) {
			// n / d and m / c times the square of d c: so that no sign of a denominator turns the order.
			want := cmp.Compare(n*d*c*c, m*c*d*d)
			for _, a := range []api.Q{q(n, d), proof.Longer(q(n, d))} {
				for _, b := range []api.Q{q(m, c), proof.Longer(q(m, c))} {
					if got, e := frac.Cmp(a, b); got != want || e != api.OK {
						t.Errorf("Cmp(%d/%d, %d/%d): %d, error %d, want %d", n, d, m, c, got, e, want)
					}
				}
			}
		})
	})
}

func TestCmpNear(t *testing.T) { // P3.1: numbers that no float tells apart
	near := func(n int64) api.Q {
		return api.Q{Num: zint.Add(proof.Power2(300), z(n)), Den: zint.Sub(proof.Power2(290), z(n))}
	}
	for n := int64(-3); n <= 3; n++ {
		for m := int64(-3); m <= 3; m++ {
			for _, a := range proof.QForms(near(n)) {
				for _, b := range proof.QForms(near(m)) {
					if got, e := frac.Cmp(a, b); got != cmp.Compare(n, m) || e != api.OK {
						t.Errorf("Cmp of near numbers %d and %d: %d, error %d", n, m, got, e)
					}
				}
			}
		}
	}
}

func TestFieldLaws(t *testing.T) { // P3.4
	d, ok := proof.Dice(4), proof.Must[api.Q](t)
	same := func(what string, a, b api.Q) {
		t.Helper()
		if !proof.Alike(a, b) {
			t.Errorf("%s: %v, %v", what, a, b)
		}
	}
	for range 600 {
		a, b, c := d.Q(5), d.Q(5), d.Q(5)
		same("a + b = b + a", ok(frac.Add(a, b)), ok(frac.Add(b, a)))
		same("a b = b a", ok(frac.Mul(a, b)), ok(frac.Mul(b, a)))
		same("a + (b + c) = (a + b) + c", ok(frac.Add(a, ok(frac.Add(b, c)))), ok(frac.Add(ok(frac.Add(a, b)), c)))
		same("a (b c) = (a b) c", ok(frac.Mul(a, ok(frac.Mul(b, c)))), ok(frac.Mul(ok(frac.Mul(a, b)), c)))
		same("a (b + c) = a b + a c", ok(frac.Mul(a, ok(frac.Add(b, c)))), ok(frac.Add(ok(frac.Mul(a, b)), ok(frac.Mul(a, c)))))
		lowest := ok(frac.Make(a.Num, a.Den))
		same("a + 0 = a", ok(frac.Add(a, q(0, -2))), lowest)
		same("a 1 = a", ok(frac.Mul(a, q(-3, -3))), lowest)
		same("a - a = 0", ok(frac.Sub(a, lowest)), q(0, 1))
		same("(a - b) + b = a", ok(frac.Add(ok(frac.Sub(a, b)), b)), lowest)
		if zint.Sign(b.Num) != 0 {
			same("(a / b) b = a", ok(frac.Mul(ok(frac.Quo(a, b)), b)), lowest)
			same("b / b = 1", ok(frac.Quo(b, b)), q(1, 1))
		}
		got, _ := frac.Cmp(a, b)
		turned, _ := frac.Cmp(b, a)
		moved, _ := frac.Cmp(ok(frac.Add(a, c)), ok(frac.Add(b, c)))
		if got != zint.Sign(ok(frac.Sub(a, b)).Num) || turned != -got || moved != got {
			t.Errorf("Cmp(%v, %v) does not go along with differences or sums", a, b)
		}
		if equal, e := frac.Cmp(a, lowest); equal != 0 || e != api.OK {
			t.Errorf("Cmp(%v, %v): %d, error %d", a, lowest, equal, e)
		}
	}
}
