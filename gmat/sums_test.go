package gmat_test

import (
	"fmt"
	"testing"

	"tessel/api"
	"tessel/gmat"
	"tessel/proof"
)

// fits tells whether two matrices have one size.
func fits(a, b rows) bool { return len(a) == len(b) && a.Width() == b.Width() }

// holds tells where a call of two matrices is not what the machine's numbers tell, or isn't refused where the sizes do not fit.
func holds(t *testing.T, name string, play func(a, b api.M) (api.M, api.Errno), a, b sample, fit bool, want func() rows) {
	t.Helper()
	for k, m := range a.forms {
		n := b.forms[(k+1)%len(b.forms)]
		what := fmt.Sprintf("%s of %s and %s", name, show(m), show(n))
		got, e := play(m, n)
		if fit {
			taken(t, what, got, e, want().Whole())
		} else {
			proof.Refused(t, what, got, e, api.ErrShape)
		}
	}
}

func TestSums(t *testing.T) { // P8.1
	list := samples()
	for _, a := range list {
		for _, b := range list {
			holds(t, "Add", gmat.Add, a, b, fits(a.rows, b.rows), func() rows { return a.Plus(b.rows) })
			holds(t, "Sub", gmat.Sub, a, b, fits(a.rows, b.rows), func() rows { return a.Plus(b.Scaled(-1)) })
		}
	}
}

func TestMul(t *testing.T) { // P8.1
	list := samples()
	for _, a := range list {
		for _, b := range list {
			holds(t, "Mul", gmat.Mul, a, b, a.Width() == len(b.rows), func() rows { return a.Times(b.rows) })
		}
	}
}

func TestScale(t *testing.T) { // P8.1
	for _, a := range samples() {
		for _, x := range []complex128{0, 1, -1, 1i, -1i, 7 - 3i, -100, 1e9i} {
			for k, m := range a.forms {
				got, e := gmat.Scale(m, proof.Forms(proof.Whole(x))[k+1])
				taken(t, fmt.Sprintf("Scale of %s by %v", show(m), x), got, e, a.Scaled(x).Whole())
			}
		}
		for _, nought := range proof.GNoughts() {
			got, e := gmat.Scale(a.forms[0], nought)
			taken(t, "Scale by 0", got, e, a.Scaled(0).Whole())
		}
	}
}

func TestTurned(t *testing.T) { // P8.1
	for _, a := range samples() {
		for _, m := range a.forms {
			got, e := gmat.Trans(m)
			taken(t, "Trans of "+show(m), got, e, a.Turned().Whole())
			got, e = gmat.Adj(m)
			taken(t, "Adj of "+show(m), got, e, a.Turned().Conjugated().Whole())
		}
	}
}

func TestGram(t *testing.T) { // P8.1
	for _, a := range samples() {
		for _, m := range a.forms {
			got, e := gmat.Gram(m)
			taken(t, "Gram of "+show(m), got, e, a.Gram().Whole())
		}
	}
}

func TestNoColumns(t *testing.T) { // P8.1: rows without columns, and no rows
	for height := 1; height <= api.MaxSize; height++ {
		empty := make(api.M, height)
		for name, play := range map[string]func() (api.M, api.Errno){
			"Add":   func() (api.M, api.Errno) { return gmat.Add(empty, proof.Longer(empty)) },
			"Scale": func() (api.M, api.Errno) { return gmat.Scale(empty, g(3, 4)) },
			"Mul":   func() (api.M, api.Errno) { return gmat.Mul(empty, api.M{}) },
			"Turn":  func() (api.M, api.Errno) { return gmat.Turn(empty, height-1, 1) },
			"Swap":  func() (api.M, api.Errno) { return gmat.Swap(empty, 0, height-1) },
		} {
			got, e := play()
			taken(t, fmt.Sprint(name, " of ", height, " rows without columns"), got, e, empty)
		}
		got, e := gmat.Trans(empty)
		taken(t, "Trans", got, e, nil)
		got, e = gmat.Gram(empty)
		taken(t, "Gram", got, e, make(rows, height).Gram().Whole())
	}
}

func TestSumsOfLong(t *testing.T) { // P8.1: held against zint, part by part
	for height := 1; height <= 3; height++ {
		for width := 1; width <= 3; width++ {
			list := longs(height, width)
			for k, a := range list {
				b, x := list[(k+3)%len(list)], list[(k+5)%len(list)][0][0]
				each(t, "Add", part(gmat.Add(a, b)), height, width, func(i, j int) api.G { return sum(a[i][j], b[i][j]) })
				each(t, "Sub", part(gmat.Sub(a, b)), height, width, func(i, j int) api.G { return less(a[i][j], b[i][j]) })
				each(t, "Scale", part(gmat.Scale(a, x)), height, width, func(i, j int) api.G { return times(x, a[i][j]) })
				each(t, "Trans", part(gmat.Trans(a)), width, height, func(i, j int) api.G { return proof.Canon(a[j][i]) })
				each(t, "Adj", part(gmat.Adj(a)), width, height, func(i, j int) api.G { return conj(a[j][i]) })
				each(t, "Gram", part(gmat.Gram(a)), height, height, func(i, j int) api.G { return dotOf(a[i], a[j]) })
				for _, c := range longs(width, 2)[k:] {
					each(t, "Mul", part(gmat.Mul(a, c)), height, 2, func(i, j int) api.G {
						all := api.G{}
						for l := range c {
							all = sum(all, times(c[l][j], a[i][l]))
						}
						return all
					})
				}
			}
		}
	}
}

// answered is a matrix with the error beside it.
type answered struct {
	m api.M
	e api.Errno
}

func part(m api.M, e api.Errno) answered { return answered{m, e} }

// each tells where an answer isn't the matrix of that size and of these numbers.
func each(t *testing.T, what string, got answered, height, width int, number func(i, j int) api.G) {
	t.Helper()
	want := make(api.M, height)
	for i := range want {
		for j := range width {
			want[i] = append(want[i], number(i, j))
		}
	}
	taken(t, what, got.m, got.e, want)
}
