package ghnf

import (
	"slices"

	"tessel/api"
	"tessel/gint"
)

// form is a matrix in Hermite form, in memory of its own: its rows by their pivots' columns.
type form map[int][]api.G

// formOf makes the form of the module of rows of one length.
func formOf(rows api.M) form {
	f := form{}
	for _, row := range rows {
		f.enter(beside(row))
	}
	return f
}

// enter lays a vector into the module; it changes the vector.
func (f form) enter(v []api.G) {
down:
	for c := range v {
		row, found := f[c]
		switch {
		case isZero(v[c]):
			continue down
		case !found:
			f[c] = upright(v, c)
			break down
		}
		take(v, row, c)
		if isZero(v[c]) {
			continue down
		}
		f[c], v = divided(row, v, c)
	}
	f.settle()
}

// settle brings each row to its rest by those below: the lowest ones first, which those above are brought to rest by. Were it not done ahead of the next vector, numbers would grow from row to row.
func (f form) settle() {
	columns := f.columns()
	for i := len(columns) - 1; i >= 0; i-- {
		f.rest(f[columns[i]], columns[i]+1)
	}
}

// columns tells the pivots' ones, rising.
func (f form) columns() []int {
	var columns []int
	for c := range f {
		columns = append(columns, c)
	}
	slices.Sort(columns)
	return columns
}

// rest leaves of a vector, from a column on, its rest by the rows; it tells how many times each of them was taken.
func (f form) rest(v []api.G, from int) []api.G {
	var taken []api.G
	for c := from; c < len(v); c++ {
		if row, found := f[c]; found {
			taken = append(taken, take(v, row, c))
		}
	}
	return taken
}

// take takes a row from v so many times that v's number at the row's pivot is a residue by it, and tells how many.
func take(v, row []api.G, c int) api.G {
	q, _, _ := gint.RoundDiv(v[c], row[c])
	if !isZero(q) {
		for j := c; j < len(v); j++ {
			v[j] = gint.Sub(v[j], gint.Mul(q, row[j]))
		}
	}
	return q
}

// divided tells two vectors that make what row and v make: at column c the first has the greatest common divisor of theirs, the second 0.
func divided(row, v []api.G, c int) (first, second []api.G) {
	divisor, x, y := gint.Xgcd(row[c], v[c])
	a, _ := gint.Exact(row[c], divisor)
	b, _ := gint.Exact(v[c], divisor)
	return sum(x, row, y, v), sum(gint.Neg(b), row, a, v)
}

// sum tells x u + y v.
func sum(x api.G, u []api.G, y api.G, v []api.G) []api.G {
	w := make([]api.G, len(u))
	for j := range w {
		w[j] = gint.Add(gint.Mul(x, u[j]), gint.Mul(y, v[j]))
	}
	return w
}

// upright tells v times the unit by which its number at column c lies in the first quadrant.
func upright(v []api.G, c int) []api.G {
	_, k := gint.Canon(v[c])
	w := make([]api.G, len(v))
	for j, x := range v {
		w[j] = gint.Turn(x, k)
	}
	return w
}

// beside lays vectors one behind the other, in memory of their own.
func beside(vectors ...[]api.G) []api.G {
	var all []api.G
	for _, v := range vectors {
		for _, x := range v {
			all = append(all, gint.Add(x, api.G{}))
		}
	}
	return all
}

func isZero(a api.G) bool { return gint.Equal(a, api.G{}) }

// areZero tells whether all numbers of a vector are 0.
func areZero(v []api.G) bool {
	for _, x := range v {
		if !isZero(x) {
			return false
		}
	}
	return true
}
