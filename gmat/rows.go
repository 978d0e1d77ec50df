package gmat

import (
	"tessel/api"
	"tessel/gint"
)

// copied tells a good matrix in memory of its own, if all these places are ones of rows.
func copied(m api.M, places ...int) (api.M, api.Errno) {
	if !Good(m) {
		return nil, api.ErrShape
	}
	for _, i := range places {
		if i < 0 || i >= len(m) {
			return nil, api.ErrArg
		}
	}
	return matrix(len(m), width(m), func(i, j int) api.G { return fresh(m[i][j]) }), api.OK
}

// AddRow adds a multiple of a row to another one.
func AddRow(m api.M, i, j int, q api.G) (api.M, api.Errno) {
	changed, e := copied(m, i, j)
	if e != api.OK {
		return nil, e
	}
	if i == j {
		return nil, api.ErrArg
	}
	for k, x := range m[j] {
		changed[i][k] = gint.Add(changed[i][k], gint.Mul(q, x))
	}
	return changed, api.OK
}

// Swap exchanges two rows.
func Swap(m api.M, i, j int) (api.M, api.Errno) {
	changed, e := copied(m, i, j)
	if e != api.OK {
		return nil, e
	}
	changed[i], changed[j] = changed[j], changed[i]
	return changed, api.OK
}

// Turn multiplies a row by a unit.
func Turn(m api.M, i, k int) (api.M, api.Errno) {
	changed, e := copied(m, i)
	if e != api.OK {
		return nil, e
	}
	for j, x := range m[i] {
		changed[i][j] = gint.Turn(x, k)
	}
	return changed, api.OK
}
