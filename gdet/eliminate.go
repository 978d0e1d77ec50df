package gdet

import (
	"tessel/api"
	"tessel/gint"
	"tessel/zint"
)

// eliminate clears the rows below one pivot after the other, and tells the pivots; pivot(k) brings the next one to row and column k, or tells that there is none.
//
// No fraction comes up: each number becomes the determinant of the pivots' rows and columns and its own, and those the pivot ahead divides. A pivot may be of any kind that numbers are multiplied by (times) and divided by (over).
func eliminate[P any](
	rows api.M,
	pivot func(k int) (P, bool),
	times func(a api.G, p P) api.G,
	over func(p P) func(a api.G) api.G,
) []P {
	var pivots []P
	// Ahead of the first pivot stands none.
	divided := func(a api.G) api.G { return a }
elimination:
	for k := 0; ; k++ {
		p, found := pivot(k)
		switch {
		case !found:
			break elimination
		case k > 0:
			divided = over(pivots[k-1])
		}
		for _, row := range rows[k+1:] {
			for j := k + 1; j < len(row); j++ {
				row[j] = divided(gint.Sub(times(row[j], p), gint.Mul(row[k], rows[k][j])))
			}
		}
		pivots = append(pivots, p)
	}
	return pivots
}

// timesWhole multiplies by a whole number.
func timesWhole(a api.G, p api.Z) api.G {
	return api.G{Re: zint.Mul(a.Re, p), Im: zint.Mul(a.Im, p)}
}

// overWhole divides by a whole number what it divides without a rest.
func overWhole(p api.Z) func(a api.G) api.G {
	return func(a api.G) api.G {
		re, _ := zint.Exact(a.Re, p)
		im, _ := zint.Exact(a.Im, p)
		return api.G{Re: re, Im: im}
	}
}

// overNumber divides by a Gaussian integer what it divides without a rest.
func overNumber(p api.G) func(a api.G) api.G {
	conj, over := gint.Conj(p), overWhole(gint.Norm(p))
	return func(a api.G) api.G { return over(gint.Mul(a, conj)) }
}
