package gmod

import (
	"iter"

	"tessel/api"
	"tessel/gint"
	"tessel/gmat"
	"tessel/gsmith"
)

// listsTo tells rows that make all lists of which a matrix makes multiples of a number; of 0 only 0 is one.
func listsTo(number api.G, m api.M) api.M {
	u, d, _, _ := gsmith.Smith(residues(m, number))
	var lists api.M
	// Of u's rows the matrix makes their factors times rows of v's inverse, whose determinant is a unit: a sum of them is a multiple of a number just if each of them is.
	for factor, row := range besideFactors(d, u) {
		multiple, _ := gmat.Scale(api.M{row}, missing(number, factor))
		lists = append(lists, multiple...)
	}
	return lists
}

// residues tells a matrix's numbers by another one, which keeps short what is made of them; by 0 they are the numbers themselves.
func residues(m api.M, number api.G) api.M {
	if isZero(number) {
		return m
	}
	left := make(api.M, len(m))
	for i, row := range m {
		for _, x := range row {
			_, r, _ := gint.RoundDiv(x, number)
			left[i] = append(left[i], r)
		}
	}
	return left
}

// missing tells what a factor must be multiplied by at least to be a multiple of a number.
func missing(number, factor api.G) api.G {
	if isZero(factor) {
		return gint.From(1, 0)
	}
	times, _ := gint.Exact(number, gint.Gcd(number, factor))
	return times
}

// besideFactors goes through a matrix's rows, each beside the number on the diagonal of another one in that row: 0 where the diagonal has ended.
func besideFactors(d, m api.M) iter.Seq2[api.G, []api.G] {
	return func(yield func(factor api.G, row []api.G) bool) {
		for i, row := range m {
			factor := api.G{}
			if i < len(d[i]) {
				factor = d[i][i]
			}
			if !yield(factor, row) {
				return
			}
		}
	}
}

// behind tells a matrix's columns from one on.
func behind(m api.M, column int) api.M {
	var left api.M
	for _, row := range m {
		left = append(left, row[column:])
	}
	return left
}

func isZero(a api.G) bool { return gint.Equal(a, api.G{}) }
