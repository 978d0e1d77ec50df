package gmat_test

import (
	"fmt"

	"tessel/api"
	"tessel/gint"
	"tessel/proof"
	"tessel/zint"
)

func g(re, im int64) api.G { return proof.G(re, im) }

type rows = proof.Rows

// sample is a matrix with the forms in which it may be handed in.
type sample struct {
	rows
	forms []api.M
}

// samples are matrices of all small sizes, and of those at the limit.
func samples() []sample {
	var list []sample
	for _, a := range append(smalls(), limits()...) {
		list = append(list, sample{a, a.Forms()})
	}
	return list
}

// smalls are matrices of all small sizes.
func smalls() []rows {
	list := []rows{nil, {{}}, {{}, {}}}
	d := proof.Dice(1)
	for height := 1; height <= 4; height++ {
		for width := 1; width <= 4; width++ {
			list = append(list, d.Rows(height, width, 1), d.Rows(height, width, 99))
		}
	}
	return list
}

// limits are matrices of as many rows or columns as there may be.
func limits() []rows {
	d := proof.Dice(3)
	return []rows{make(rows, api.MaxSize), d.Rows(1, api.MaxSize, 99), d.Rows(api.MaxSize, 1, 99), d.Rows(api.MaxSize, api.MaxSize, 99)}
}

// places are those of some of a matrix's rows: of a small one of all.
func places(a rows) []int {
	if len(a) == api.MaxSize {
		return []int{0, 1, api.MaxSize / 2, api.MaxSize - 1}
	}
	var list []int
	for i := range a {
		list = append(list, i)
	}
	return list
}

// vectors are lists of all small lengths, and of those about the limit of a matrix, which is none of theirs.
func vectors() [][]complex128 {
	list := [][]complex128{nil}
	d := proof.Dice(2)
	for n := 1; n <= 5; n++ {
		list = append(list, d.Rows(1, n, 2)[0], d.Rows(1, n, 999)[0])
	}
	for _, n := range []int{api.MaxSize, api.MaxSize + 1, 2000} {
		list = append(list, d.Rows(1, n, 99)[0])
	}
	return list
}

// longs are matrices of long numbers.
func longs(height, width int) []api.M {
	d := proof.Dice(height*100 + width)
	var list []api.M
	for size := 1; size <= 8; size++ {
		list = append(list, d.M(height, width, size))
	}
	return list
}

// times, less and sum reckon by zint, part by part.
func times(x, y api.G) api.G {
	return api.G{
		Re: zint.Sub(zint.Mul(x.Re, y.Re), zint.Mul(x.Im, y.Im)),
		Im: zint.Add(zint.Mul(x.Im, y.Re), zint.Mul(x.Re, y.Im)),
	}
}

func less(x, y api.G) api.G { return api.G{Re: zint.Sub(x.Re, y.Re), Im: zint.Sub(x.Im, y.Im)} }

func sum(x, y api.G) api.G { return api.G{Re: zint.Add(x.Re, y.Re), Im: zint.Add(x.Im, y.Im)} }

func conj(x api.G) api.G { return api.G{Re: zint.Add(x.Re, api.Z{}), Im: zint.Neg(x.Im)} }

// dotOf tells <u, v>, part by part.
func dotOf(u, v []api.G) api.G {
	all := api.G{}
	for j := range u {
		all = sum(all, times(u[j], conj(v[j])))
	}
	return all
}

// show tells a matrix for one who reads a fault: of a large one the beginning.
func show(m api.M) string {
	const most = 6
	text := fmt.Sprint(len(m), " rows:")
	for _, row := range m[:min(len(m), most)] {
		text += fmt.Sprint(" [", len(row), ":")
		for _, x := range row[:min(len(row), most)] {
			text += " " + gint.Text(x)
		}
		text += "]"
	}
	return text
}

// taken tells where a call that answers a matrix is refused, or doesn't answer what is wanted.
func taken(t proof.T, what string, got api.M, e api.Errno, want api.M) {
	t.Helper()
	if e != api.OK || !proof.Alike(got, want) {
		t.Errorf("%s: %s, error %d, want %s", what, show(got), e, show(want))
	}
}
