package gfrac_test

import (
	"fmt"
	"testing"

	"tessel/api"
	"tessel/frac"
	"tessel/gfrac"
	"tessel/proof"
	"tessel/zint"
)

// operation is what makes a number of two, by its name, and what it makes of small ones: over 0 where it is refused.
type operation struct {
	name string
	play func(a, b api.C) (api.C, api.Errno)
	want func(a, b small) small
}

func operations() []operation {
	return []operation{
		{"Add", gfrac.Add, small.plus}, {"Sub", gfrac.Sub, small.less}, {"Mul", gfrac.Mul, small.times}, {"Quo", gfrac.Quo, small.by},
	}
}

func TestOf(t *testing.T) { // P7.1
	for _, a := range smalls(5, 1) {
		for _, form := range proof.Forms(proof.G(a.re, a.im)) {
			proof.Is(t, fmt.Sprint("Of ", a), gfrac.Of(form), a.whole())
		}
	}
	for _, nought := range proof.GNoughts() {
		proof.Is(t, "Of 0", gfrac.Of(nought), small{0, 0, 1}.whole())
	}
	d := proof.Dice(2)
	for range 200 {
		a := d.G(8)
		low := proof.Canon(a)
		proof.Is(t, "Of "+proof.Show(a), gfrac.Of(a), api.C{Re: api.Q{Num: low.Re, Den: z(1)}, Im: api.Q{Num: low.Im, Den: z(1)}})
	}
}

func TestFieldSmall(t *testing.T) { // P7.1
	for _, o := range operations() {
		for _, x := range smalls(2, 1, 2, -3) {
			for k, y := range smalls(2, 1, -4, 6) {
				a, b := forms(x.whole())[k%5], forms(y.whole())[k/5%5]
				what := fmt.Sprintf("%s(%v, %v)", o.name, x, y)
				got, e := o.play(a, b)
				if want := o.want(x, y); want.den == 0 {
					proof.Refused(t, what, got, e, api.ErrZero)
				} else {
					proof.Taken(t, what, got, e, want.whole())
				}
			}
		}
	}
}

func TestFieldForms(t *testing.T) { // P7.1: digits 0 at the top, Neg of 0, signs and common divisors make no difference
	for _, o := range operations() {
		for _, x := range smalls(1, 2, 3) {
			for _, y := range []small{{1, -2, 3}, {0, 5, 2}, {-4, 0, 7}} {
				for _, a := range forms(x.whole()) {
					for _, b := range forms(y.whole()) {
						got, e := o.play(a, b)
						proof.Taken(t, fmt.Sprintf("%s(%v, %v)", o.name, a, b), got, e, o.want(x, y).whole())
					}
				}
			}
		}
	}
}

func TestFieldOfLong(t *testing.T) { // P7.1: held against frac, part by part
	d, p := proof.Dice(3), parts{proof.Must[api.Q](t)}
	for range 400 {
		a, b := some(&d, 6), some(&d, 6)
		what := " of " + proof.Show(a) + " and " + proof.Show(b)
		got, e := gfrac.Add(a, b)
		proof.Taken(t, "Add"+what, got, e, p.sum(a, b))
		got, e = gfrac.Sub(a, b)
		proof.Taken(t, "Sub"+what, got, e, p.difference(a, b))
		got, e = gfrac.Mul(a, b)
		proof.Taken(t, "Mul"+what, got, e, p.product(a, b))
		got, e = gfrac.Quo(a, b)
		if isZero(b) {
			proof.Refused(t, "Quo"+what, got, e, api.ErrZero)
		} else {
			proof.Taken(t, "Quo"+what, got, e, p.quotient(a, b))
		}
		norm, e := gfrac.Norm(a)
		proof.Taken(t, "Norm"+what, norm, e, p.norm(a))
		got, e = gfrac.Conj(a)
		proof.Taken(t, "Conj"+what, got, e, p.lowest(api.C{Re: a.Re, Im: api.Q{Num: zint.Neg(a.Im.Num), Den: a.Im.Den}}))
	}
}

func TestConjAndNorm(t *testing.T) { // P7.1
	for _, x := range smalls(3, 1, 2, -3, 5) {
		for _, a := range forms(x.whole()) {
			got, e := gfrac.Conj(a)
			proof.Taken(t, fmt.Sprintf("Conj(%v)", a), got, e, small{x.re, -x.im, x.den}.whole())
			norm, e := gfrac.Norm(a)
			proof.Taken(t, fmt.Sprintf("Norm(%v)", a), norm, e, proof.Low(x.norm(), x.den*x.den))
		}
	}
}

func TestEqual(t *testing.T) { // P7.1
	list := []api.C{small{0, 0, 1}.whole(), small{1, 0, 2}.whole(), small{0, 1, 2}.whole(), small{1, 1, 2}.whole(), small{-1, 1, 2}.whole(), small{1, -1, 2}.whole(), {Re: q(1, 3), Im: q(1, 2)}, {Re: q(1, 2), Im: q(1, 3)}, {Re: api.Q{Num: proof.Power2(64), Den: z(3)}, Im: q(1, 2)}, {Re: q(1, 2), Im: api.Q{Num: z(1), Den: proof.Power2(64)}}}
	for i, x := range list {
		for j, y := range list {
			for _, a := range forms(x) {
				for _, b := range forms(y) {
					got, e := gfrac.Equal(a, b)
					proof.Taken(t, fmt.Sprintf("Equal(%v, %v)", a, b), got, e, i == j)
				}
			}
		}
	}
	for _, a := range noughts() {
		for _, b := range noughts() {
			got, e := gfrac.Equal(a, b)
			proof.Taken(t, "Equal of 0 and 0", got, e, true)
		}
	}
}

func TestDenZero(t *testing.T) { // each call of numbers: a Den of 0 in any part, on either side, whatever the rest is
	for _, a := range hollows() {
		for _, b := range append(hollows(), append(noughts(), small{1, 2, 3}.whole(), small{-1, 0, 1}.whole())...) {
			for _, o := range operations() {
				got, e := o.play(a, b)
				proof.Refused(t, fmt.Sprintf("%s(%v, %v)", o.name, a, b), got, e, api.ErrZero)
				got, e = o.play(b, a)
				proof.Refused(t, fmt.Sprintf("%s(%v, %v)", o.name, b, a), got, e, api.ErrZero)
			}
			is, e := gfrac.Equal(a, b)
			proof.Refused(t, fmt.Sprintf("Equal(%v, %v)", a, b), is, e, api.ErrZero)
			is, e = gfrac.Equal(b, a)
			proof.Refused(t, fmt.Sprintf("Equal(%v, %v)", b, a), is, e, api.ErrZero)
		}
		conj, e := gfrac.Conj(a)
		proof.Refused(t, fmt.Sprintf("Conj(%v)", a), conj, e, api.ErrZero)
		norm, e := gfrac.Norm(a)
		proof.Refused(t, fmt.Sprintf("Norm(%v)", a), norm, e, api.ErrZero)
		whole, e := gfrac.Round(a)
		proof.Refused(t, fmt.Sprintf("Round(%v)", a), whole, e, api.ErrZero)
		text, e := gfrac.Text(a)
		proof.Refused(t, fmt.Sprintf("Text(%v)", a), text, e, api.ErrZero)
	}
}

func TestQuoByZero(t *testing.T) { // P7.1
	for _, a := range append(noughts(), small{1, 0, 1}.whole(), small{2, -5, 3}.whole(), api.C{Re: q(-1, 2), Im: api.Q{Num: proof.Power2(100), Den: z(-3)}}) {
		for _, b := range noughts() {
			got, e := gfrac.Quo(a, b)
			proof.Refused(t, fmt.Sprintf("Quo(%v, %v)", a, b), got, e, api.ErrZero)
		}
	}
}

func TestFieldLaws(t *testing.T) { // P7.4
	d, ok, rational := proof.Dice(4), proof.Must[api.C](t), proof.Must[api.Q](t)
	p := parts{rational}
	for range 200 {
		a, b, c := some(&d, 3), some(&d, 3), some(&d, 3)
		what := " of " + proof.Show([]api.C{a, b, c})
		proof.Is(t, "a + b = b + a"+what, ok(gfrac.Add(a, b)), ok(gfrac.Add(b, a)))
		proof.Is(t, "a b = b a"+what, ok(gfrac.Mul(a, b)), ok(gfrac.Mul(b, a)))
		proof.Is(t, "a + (b + c) = (a + b) + c"+what, ok(gfrac.Add(a, ok(gfrac.Add(b, c)))), ok(gfrac.Add(ok(gfrac.Add(a, b)), c)))
		proof.Is(t, "a (b c) = (a b) c"+what, ok(gfrac.Mul(a, ok(gfrac.Mul(b, c)))), ok(gfrac.Mul(ok(gfrac.Mul(a, b)), c)))
		proof.Is(t, "a (b + c) = a b + a c"+what, ok(gfrac.Mul(a, ok(gfrac.Add(b, c)))), ok(gfrac.Add(ok(gfrac.Mul(a, b)), ok(gfrac.Mul(a, c)))))
		proof.Is(t, "(a - b) + b = a"+what, ok(gfrac.Add(ok(gfrac.Sub(a, b)), b)), p.lowest(a))
		proof.Is(t, "conjugate of a product"+what, ok(gfrac.Conj(ok(gfrac.Mul(a, b)))), ok(gfrac.Mul(ok(gfrac.Conj(a)), ok(gfrac.Conj(b)))))
		norm := rational(gfrac.Norm(a))
		proof.Is(t, "a times its conjugate"+what, ok(gfrac.Mul(a, ok(gfrac.Conj(a)))), api.C{Re: norm, Im: q(0, 1)})
		norms := rational(frac.Mul(norm, rational(gfrac.Norm(b))))
		proof.Is(t, "norm of a product"+what, rational(gfrac.Norm(ok(gfrac.Mul(a, b)))), norms)
		if !isZero(b) {
			proof.Is(t, "(a / b) b = a"+what, ok(gfrac.Mul(ok(gfrac.Quo(a, b)), b)), p.lowest(a))
			proof.Is(t, "b / b = 1"+what, ok(gfrac.Quo(b, b)), small{1, 0, 1}.whole())
		}
	}
}
