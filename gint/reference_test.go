package gint_test

import (
	"strconv"

	"tessel/api"
	"tessel/proof"
	"tessel/zint"
)

func z(n int64) api.Z { return proof.Z(n) }

func g(re, im int64) api.G { return proof.G(re, im) }

// small is a Gaussian integer of the machine's numbers.
type small struct{ re, im int64 }

func (a small) whole() api.G { return g(a.re, a.im) }

func (a small) plus(b small) small { return small{a.re + b.re, a.im + b.im} }

func (a small) less(b small) small { return small{a.re - b.re, a.im - b.im} }

func (a small) times(b small) small {
	return small{a.re*b.re - a.im*b.im, a.re*b.im + a.im*b.re}
}

func (a small) norm() int64 { return a.re*a.re + a.im*a.im }

// over tells rnd(a / b), part by part. b is not 0.
func (a small) over(b small) small {
	top, bottom := a.times(small{b.re, -b.im}), b.norm()
	return small{halfUp(top.re, bottom), halfUp(top.im, bottom)}
}

// halfUp tells the floor of n / m + 1/2, of an m above 0.
func halfUp(n, m int64) int64 {
	n, m = 2*n+m, 2*m
	q := n / m
	if n%m < 0 {
		q--
	}
	return q
}

// square lists all small numbers whose parts are at most n in amount.
func square(n int64) []small {
	var list []small
	for re := -n; re <= n; re++ {
		for im := -n; im <= n; im++ {
			list = append(list, small{re, im})
		}
	}
	return list
}

// show tells both parts, whatever their form.
func show(a api.G) string { return "(" + zint.Text(a.Re) + "," + zint.Text(a.Im) + ")" }

func (a small) String() string {
	return "(" + strconv.FormatInt(a.re, 10) + "," + strconv.FormatInt(a.im, 10) + ")"
}

// sum, difference and product reckon by zint, part by part.
func sum(a, b api.G) api.G { return api.G{Re: zint.Add(a.Re, b.Re), Im: zint.Add(a.Im, b.Im)} }

func difference(a, b api.G) api.G {
	return api.G{Re: zint.Sub(a.Re, b.Re), Im: zint.Sub(a.Im, b.Im)}
}

// product goes another way than the plain one: by three products of whole numbers.
func product(a, b api.G) api.G {
	first, second := zint.Mul(a.Re, b.Re), zint.Mul(a.Im, b.Im)
	all := zint.Mul(zint.Add(a.Re, a.Im), zint.Add(b.Re, b.Im))
	return api.G{Re: zint.Sub(first, second), Im: zint.Sub(zint.Sub(all, first), second)}
}

func isZero(a api.G) bool { return zint.Sign(a.Re) == 0 && zint.Sign(a.Im) == 0 }

// inFirst tells whether it lies in the first quadrant.
func inFirst(a api.G) bool { return zint.Sign(a.Re) > 0 && zint.Sign(a.Im) >= 0 }

// samples are numbers of all kinds and forms.
func samples() []api.G {
	list := proof.GNoughts()[19:]
	for _, a := range []small{{1, 0}, {0, 1}, {-1, 0}, {0, -1}, {1, 1}, {-2, 1}, {2, -3}, {-4, -1}, {5, 0}, {0, -7}, {1 << 32, -1 << 40}} {
		list = append(list, a.whole())
	}
	list = append(list, proof.Longer(g(3, -4)), proof.Longer(g(0, 6)), proof.Longer(g(-1, 0)), api.G{Re: proof.Power2(64), Im: z(-1)}, api.G{Im: proof.Power2(200)})
	d := proof.Dice(1)
	for _, size := range []int{1, 2, 3, 5, 8, 8, 9} {
		list = append(list, d.G(size))
	}
	return list
}
