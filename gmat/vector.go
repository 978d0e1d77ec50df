package gmat

import (
	"tessel/api"
	"tessel/gint"
	"tessel/zint"
)

// Times tells the sum of rows.
func Times(v []api.G, m api.M) ([]api.G, api.Errno) {
	if !Good(m) || len(v) != len(m) {
		return nil, api.ErrShape
	}
	return combined(v, m), api.OK
}

// combined tells the sum of a good matrix's rows, each times its number of v.
func combined(v []api.G, m api.M) []api.G {
	return build(width(m), func(j int) api.G {
		sum := api.G{}
		for x, row := range beside(v, m) {
			sum = gint.Add(sum, gint.Mul(x, row[j]))
		}
		return sum
	})
}

// Dot tells the product of two vectors.
func Dot(u, v []api.G) (api.G, api.Errno) {
	if len(u) != len(v) {
		return api.G{}, api.ErrShape
	}
	return product(u, v), api.OK
}

// product tells <u, v> of two vectors of one length.
func product(u, v []api.G) api.G {
	sum := api.G{}
	for x, y := range beside(u, v) {
		sum = gint.Add(sum, gint.Mul(x, gint.Conj(y)))
	}
	return sum
}

// Length tells the length squared.
func Length(v []api.G) api.Z {
	sum := api.Z{}
	for _, x := range v {
		sum = zint.Add(sum, gint.Norm(x))
	}
	return sum
}
