package gint_test

import (
	"slices"
	"strconv"
	"testing"

	"tessel/api"
	"tessel/zint"
)

// number tells a canonical whole number of its digits, the lowest one first.
func number(neg bool, digits ...uint32) api.Z {
	for len(digits) > 0 && digits[len(digits)-1] == 0 {
		digits = digits[:len(digits)-1]
	}
	return api.Z{Neg: neg && len(digits) > 0, Mag: digits}
}

func z(n int64) api.Z {
	amount := uint64(n)
	if n < 0 {
		amount = -amount
	}
	return number(n < 0, uint32(amount), uint32(amount>>32))
}

func power2(n int) api.Z {
	digits := make([]uint32, n/32+1)
	digits[n/32] = 1 << (n % 32)
	return number(false, digits...)
}

// g tells re + im i.
func g(re, im int64) api.G { return api.G{Re: z(re), Im: z(im)} }

// small is a Gaussian integer of the machine's numbers.
type small struct{ re, im int64 }

func (a small) whole() api.G { return g(a.re, a.im) }

func (a small) plus(b small) small { return small{a.re + b.re, a.im + b.im} }

func (a small) less(b small) small { return small{a.re - b.re, a.im - b.im} }

func (a small) times(b small) small {
	return small{a.re*b.re - a.im*b.im, a.re*b.im + a.im*b.re}
}

func (a small) norm() int64 { return a.re*a.re + a.im*a.im }

// over tells rnd(a / b), part by part. b is not 0.
func (a small) over(b small) small {
	top, bottom := a.times(small{b.re, -b.im}), b.norm()
	return small{halfUp(top.re, bottom), halfUp(top.im, bottom)}
}

// halfUp tells the floor of n / m + 1/2, of an m above 0.
func halfUp(n, m int64) int64 {
	n, m = 2*n+m, 2*m
	q := n / m
	if n%m < 0 {
		q--
	}
	return q
}

// square lists all small numbers whose parts are at most n in amount.
func square(n int64) []small {
	var list []small
	for re := -n; re <= n; re++ {
		for im := -n; im <= n; im++ {
			list = append(list, small{re, im})
		}
	}
	return list
}

func freshZ(a api.Z) api.Z { return api.Z{Neg: a.Neg, Mag: slices.Clone(a.Mag)} }

func fresh(a api.G) api.G { return api.G{Re: freshZ(a.Re), Im: freshZ(a.Im)} }

// canon tells a number as it must be answered.
func canon(a api.G) api.G {
	return api.G{Re: number(a.Re.Neg, a.Re.Mag...), Im: number(a.Im.Neg, a.Im.Mag...)}
}

// longerZ tells the same number in another form: with digits 0 at the top, and 0 with the other sign.
func longerZ(a api.Z) api.Z {
	zero := len(number(false, a.Mag...).Mag) == 0
	return api.Z{Neg: a.Neg != zero, Mag: append(slices.Clone(a.Mag), 0, 0)}
}

func longer(a api.G) api.G { return api.G{Re: longerZ(a.Re), Im: longerZ(a.Im)} }

// forms are those in which one number may be handed in.
func forms(a api.G) []api.G {
	return []api.G{a, longer(a), {Re: longerZ(a.Re), Im: a.Im}, {Re: a.Re, Im: longerZ(a.Im)}}
}

func alikeZ(a, b api.Z) bool { return a.Neg == b.Neg && slices.Equal(a.Mag, b.Mag) }

func alike(a, b api.G) bool { return alikeZ(a.Re, b.Re) && alikeZ(a.Im, b.Im) }

// is tells where an answer isn't what is wanted, as it lies there: want is canonical.
func is(t *testing.T, what string, got, want api.G) {
	t.Helper()
	if !alike(got, want) {
		t.Errorf("%s: %v, want %v", what, got, want)
	}
}

func taken(t *testing.T, what string, got api.G, e api.Errno, want api.G) {
	t.Helper()
	if e != api.OK || !alike(got, want) {
		t.Errorf("%s: %v, error %d, want %v", what, got, e, want)
	}
}

// refused tells where a call isn't refused as it should be, or answers something beside the error.
func refused(t *testing.T, what string, got api.G, e, want api.Errno) {
	t.Helper()
	if e != want || !alike(got, api.G{}) {
		t.Errorf("%s: %v, error %d, want error %d", what, got, e, want)
	}
}

// show tells both parts, whatever their form.
func show(a api.G) string { return "(" + zint.Text(a.Re) + "," + zint.Text(a.Im) + ")" }

func (a small) String() string {
	return "(" + strconv.FormatInt(a.re, 10) + "," + strconv.FormatInt(a.im, 10) + ")"
}

// sum, difference and product reckon by zint, part by part.
func sum(a, b api.G) api.G { return api.G{Re: zint.Add(a.Re, b.Re), Im: zint.Add(a.Im, b.Im)} }

func difference(a, b api.G) api.G {
	return api.G{Re: zint.Sub(a.Re, b.Re), Im: zint.Sub(a.Im, b.Im)}
}

// product goes another way than the plain one: by three products of whole numbers.
func product(a, b api.G) api.G {
	first, second := zint.Mul(a.Re, b.Re), zint.Mul(a.Im, b.Im)
	all := zint.Mul(zint.Add(a.Re, a.Im), zint.Add(b.Re, b.Im))
	return api.G{Re: zint.Sub(first, second), Im: zint.Sub(zint.Sub(all, first), second)}
}

func isZero(a api.G) bool { return zint.Sign(a.Re) == 0 && zint.Sign(a.Im) == 0 }

// inFirst tells whether it lies in the first quadrant.
func inFirst(a api.G) bool { return zint.Sign(a.Re) > 0 && zint.Sign(a.Im) >= 0 }

// dice: numbers that come in the same order at each run.
type dice uint64

func (d *dice) next(n int) int {
	*d = *d*6364136223846793005 + 1442695040888963407
	return int(uint64(*d) >> 33 % uint64(n))
}

// part tells a whole number of at most size digits, canonical or not.
func (d *dice) part(size int) api.Z {
	edges := []uint32{0, 1, 2, 1<<31 - 1, 1 << 31, 1<<32 - 1}
	digits := make([]uint32, d.next(size+1))
	for i := range digits {
		digits[i] = uint32(d.next(1<<16)<<16 | d.next(1<<16))
		if k := d.next(2 * len(edges)); k < len(edges) {
			digits[i] = edges[k]
		}
	}
	return api.Z{Neg: d.next(2) == 1, Mag: append(digits, make([]uint32, d.next(3)/2)...)}
}

func (d *dice) whole(size int) api.G { return api.G{Re: d.part(size), Im: d.part(size)} }

// divisor tells a number that is not 0.
func (d *dice) divisor(size int) api.G {
	for {
		if a := d.whole(size); !isZero(a) {
			return a
		}
	}
}

// noughts are forms of 0.
func noughts() []api.G {
	var list []api.G
	for _, re := range []api.Z{{}, {Neg: true}, {Mag: []uint32{0}}, {Neg: true, Mag: []uint32{0, 0, 0}}} {
		list = append(list, api.G{Re: re}, api.G{Im: re}, api.G{Re: re, Im: freshZ(re)})
	}
	return list
}

// samples are numbers of all kinds and forms.
func samples() []api.G {
	list := noughts()[8:]
	for _, a := range []small{{1, 0}, {0, 1}, {-1, 0}, {0, -1}, {1, 1}, {-2, 1}, {2, -3}, {-4, -1}, {5, 0}, {0, -7}, {1 << 32, -1 << 40}} {
		list = append(list, a.whole())
	}
	list = append(list, longer(g(3, -4)), longer(g(0, 6)), longer(g(-1, 0)), api.G{Re: power2(64), Im: z(-1)}, api.G{Im: power2(200)})
	d := dice(1)
	for _, size := range []int{1, 2, 3, 5, 8, 8, 9} {
		list = append(list, d.whole(size))
	}
	return list
}
