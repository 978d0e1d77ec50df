package gmat

import (
	"iter"

	"tessel/api"
	"tessel/gint"
)

// build makes a list of n items by their places: a row of numbers, a matrix of rows.
func build[V any](n int, item func(i int) V) []V {
	list := make([]V, n)
	for i := range list {
		list[i] = item(i)
	}
	return list
}

// matrix makes one by the places of its numbers.
func matrix(rows, cols int, number func(i, j int) api.G) api.M {
	return build(rows, func(i int) []api.G {
		return build(cols, func(j int) api.G { return number(i, j) })
	})
}

// beside goes through two lists of one length side by side: a vector's numbers and the rows that they count times, the rows of two matrices, the numbers of two rows.
func beside[A, B any](a []A, b []B) iter.Seq2[A, B] {
	return func(yield func(A, B) bool) {
		for i, x := range a {
			if !yield(x, b[i]) {
				return
			}
		}
	}
}

// fresh tells the same number in memory of its own: what is handed in is not kept.
func fresh(a api.G) api.G { return gint.Add(a, api.G{}) }
