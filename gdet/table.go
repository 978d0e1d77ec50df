package gdet

import (
	"tessel/api"
	"tessel/gint"
	"tessel/gmat"
)

// table is what an elimination works on, in memory of its own: a good matrix, with others laid beside it and below. Its pivots are taken from the matrix's rows and columns alone.
type table struct {
	rows       api.M
	high, wide int
	// odd tells whether the rows and columns were exchanged an odd number of times.
	odd bool
}

// laid makes a table of a good matrix alone.
func laid(m api.M) *table {
	high, wide, _ := gmat.Size(m)
	return &table{rows: beside(m), high: high, wide: wide}
}

// bordered lays ones beside a good matrix, another matrix below it, and noughts in the corner. When each of the matrix's rows has had its pivot, the corner holds -1 times the lower matrix times the adjugate (of the columns that have a pivot): that is the last pivot times the inverse.
func bordered(m, below api.M) *table {
	t := laid(m)
	ones, _ := gmat.Ident(t.high)
	t.rows = append(beside(t.rows, ones), beside(below, blank(len(below), t.high))...)
	return t
}

// beside lays matrices of one height beside one another, in memory of their own.
func beside(matrices ...api.M) api.M {
	rows := make(api.M, len(matrices[0]))
	for _, m := range matrices {
		for i, row := range m {
			for _, x := range row {
				rows[i] = append(rows[i], gint.Add(x, api.G{}))
			}
		}
	}
	return rows
}

// blank makes a matrix of noughts.
func blank(high, wide int) api.M {
	rows := make(api.M, high)
	for i := range rows {
		rows[i] = make([]api.G, wide)
	}
	return rows
}

// pivot brings the first number that is not 0, from row and column k on, to that place.
func (t *table) pivot(k int) (api.G, bool) {
	for i := k; i < t.high; i++ {
		for j := k; j < t.wide; j++ {
			if !isZero(t.rows[i][j]) {
				t.exchange(i, j, k)
				return t.rows[k][k], true
			}
		}
	}
	return api.G{}, false
}

func isZero(a api.G) bool { return gint.Equal(a, api.G{}) }

// exchange brings row i and column j to k.
func (t *table) exchange(i, j, k int) {
	t.rows[i], t.rows[k] = t.rows[k], t.rows[i]
	for _, row := range t.rows {
		row[j], row[k] = row[k], row[j]
	}
	t.odd = t.odd != (i != k) != (j != k)
}

// signed tells a number times -1 for each exchange.
func (t *table) signed(a api.G) api.G {
	if t.odd {
		return gint.Neg(a)
	}
	return a
}

// pivots eliminates by all pivots that there are.
func (t *table) pivots() []api.G { return eliminate(t.rows, t.pivot, gint.Mul, overNumber) }
