package gfrac_test

import (
	"fmt"

	"tessel/api"
	"tessel/frac"
	"tessel/proof"
)

func z(n int64) api.Z { return proof.Z(n) }

func q(n, d int64) api.Q { return proof.Q(n, d) }

// small is (re + im i) / den of the machine's numbers.
type small struct{ re, im, den int64 }

// whole tells it as it must be answered. den is not 0.
func (a small) whole() api.C {
	return api.C{Re: proof.Low(a.re, a.den), Im: proof.Low(a.im, a.den)}
}

func (a small) String() string { return fmt.Sprintf("(%d%+di)/%d", a.re, a.im, a.den) }

func (a small) plus(b small) small {
	return small{a.re*b.den + b.re*a.den, a.im*b.den + b.im*a.den, a.den * b.den}
}

func (a small) less(b small) small { return a.plus(small{b.re, b.im, -b.den}) }

func (a small) times(b small) small {
	return small{a.re*b.re - a.im*b.im, a.re*b.im + a.im*b.re, a.den * b.den}
}

// norm tells the norm times den^2.
func (a small) norm() int64 { return a.re*a.re + a.im*a.im }

// by tells a / b, over 0 if b is 0.
func (a small) by(b small) small {
	top := a.times(small{b.re, -b.im, 1})
	return small{top.re * b.den, top.im * b.den, top.den * b.norm()}
}

// smalls lists all small numbers whose parts are at most n in amount, over each of the dens.
func smalls(n int64, dens ...int64) []small {
	var list []small
	for _, den := range dens {
		for re := -n; re <= n; re++ {
			for im := -n; im <= n; im++ {
				list = append(list, small{re, im, den})
			}
		}
	}
	return list
}

// forms are some in which one number may be handed in: most of them have parts of two forms.
func forms(a api.C) []api.C {
	re, im := proof.QForms(a.Re), proof.QForms(a.Im)
	var list []api.C
	for k := range re {
		list = append(list, api.C{Re: re[k], Im: im[2*k%len(im)]})
	}
	return list
}

// noughts are forms in which 0 may be handed in.
func noughts() []api.C {
	list := forms(api.C{Re: q(0, 1), Im: q(0, -3)})
	for _, nought := range proof.Noughts() {
		list = append(list, api.C{Re: api.Q{Num: nought, Den: z(-7)}, Im: api.Q{Num: proof.Fresh(nought), Den: proof.Power2(64)}})
	}
	return list
}

// hollows are forms of what is no number: one part is over 0, or both are.
func hollows() []api.C {
	var list []api.C
	for k, part := range proof.Hollows() {
		list = append(list, api.C{Re: part, Im: q(int64(k)-3, 2)}, api.C{Re: q(int64(k)-3, -1), Im: part}, api.C{Re: part, Im: proof.Fresh(part)})
	}
	return list
}

// some tells a number of any kind.
func some(d *proof.Dice, size int) api.C {
	a := api.C{Re: d.Q(size), Im: d.Q(size)}
	switch d.Next(6) {
	case 0:
		// Both parts over one Den, as they often come.
		a.Im.Den = proof.Fresh(a.Re.Den)
	case 1:
		a.Re.Num = api.Z{}
	case 2:
		a.Im.Num = api.Z{Neg: true}
	}
	return a
}

// isZero tells whether a number is 0.
func isZero(a api.C) bool { return len(proof.Canon(a).Re.Num.Mag)+len(proof.Canon(a).Im.Num.Mag) == 0 }

// samples are numbers of all kinds and forms, and what is none.
func samples() []api.C {
	list := append(hollows()[:6], noughts()[3:8]...)
	for _, a := range []small{{1, 0, 1}, {0, 1, 1}, {-1, 0, 1}, {0, -1, 1}, {1, 1, 2}, {-3, 4, 5}, {9, 6, -4}} {
		list = append(list, forms(a.whole())[1:4]...)
	}
	list = append(list, api.C{Re: q(1<<40, 6), Im: api.Q{Num: z(-5), Den: proof.Power2(70)}})
	d := proof.Dice(1)
	for range 8 {
		list = append(list, some(&d, 5))
	}
	return list
}

// parts reckons part by part, by frac, whose calls may not be refused here.
type parts struct {
	frac func(a api.Q, e api.Errno) api.Q
}

// lowest tells a number as it must be answered.
func (p parts) lowest(a api.C) api.C {
	return api.C{Re: p.frac(frac.Make(a.Re.Num, a.Re.Den)), Im: p.frac(frac.Make(a.Im.Num, a.Im.Den))}
}

func (p parts) sum(a, b api.C) api.C {
	return api.C{Re: p.frac(frac.Add(a.Re, b.Re)), Im: p.frac(frac.Add(a.Im, b.Im))}
}

func (p parts) difference(a, b api.C) api.C {
	return api.C{Re: p.frac(frac.Sub(a.Re, b.Re)), Im: p.frac(frac.Sub(a.Im, b.Im))}
}

func (p parts) product(a, b api.C) api.C {
	times := func(x, y api.Q) api.Q { return p.frac(frac.Mul(x, y)) }
	return api.C{
		Re: p.frac(frac.Sub(times(a.Re, b.Re), times(a.Im, b.Im))),
		Im: p.frac(frac.Add(times(a.Re, b.Im), times(a.Im, b.Re))),
	}
}

func (p parts) norm(a api.C) api.Q {
	return p.frac(frac.Add(p.frac(frac.Mul(a.Re, a.Re)), p.frac(frac.Mul(a.Im, a.Im))))
}

// quotient tells a / b of a b that is not 0.
func (p parts) quotient(a, b api.C) api.C {
	turned := api.C{Re: b.Re, Im: p.frac(frac.Sub(q(0, 1), b.Im))}
	top, bottom := p.product(a, turned), p.norm(b)
	return api.C{Re: p.frac(frac.Quo(top.Re, bottom)), Im: p.frac(frac.Quo(top.Im, bottom))}
}
