package gdet_test

import (
	"fmt"
	"slices"

	"tessel/api"
	"tessel/frac"
	"tessel/gfrac"
	"tessel/gint"
	"tessel/gmat"
	"tessel/proof"
)

type rows = proof.Rows

func g(re, im int64) api.G { return proof.G(re, im) }

// sign is that of a place whose row and column have this sum.
func sign(sum int) complex128 {
	if sum%2 == 1 {
		return -1
	}
	return 1
}

// without tells what is left of rows without one of them, and without a column.
func without[V any, L ~[][]V](a L, i, j int) L {
	var left L
	for k, row := range a {
		if k != i {
			left = append(left, slices.Delete(slices.Clone(row), j, j+1))
		}
	}
	return left
}

// det tells the determinant by the first row: each of its numbers times the determinant of what is left.
func det(a rows) complex128 {
	if len(a) == 0 {
		return 1
	}
	sum := complex128(0)
	for j, x := range a[0] {
		sum += sign(j) * x * det(without(a, 0, j))
	}
	return sum
}

// adjugate tells the one by the document's words.
func adjugate(a rows) rows {
	return proof.Made(len(a), len(a), func(i, j int) complex128 { return sign(i+j) * det(without(a, j, i)) })
}

// choices lists all ways to choose k of the numbers below n, rising.
func choices(n, k int) [][]int {
	if k == 0 {
		return [][]int{nil}
	}
	var list [][]int
	for last := k - 1; last < n; last++ {
		for _, ahead := range choices(last, k-1) {
			list = append(list, append(ahead[:len(ahead):len(ahead)], last))
		}
	}
	return list
}

// chosen tells the numbers where these rows and columns meet.
func chosen(a rows, lines, columns []int) rows {
	return proof.Made(len(lines), len(columns), func(i, j int) complex128 { return a[lines[i]][columns[j]] })
}

// rank tells how many rows and columns at the most meet in numbers whose determinant is not 0.
func rank(a rows) int {
	for k := min(len(a), a.Width()); k > 0; k-- {
		for _, lines := range choices(len(a), k) {
			for _, columns := range choices(a.Width(), k) {
				if det(chosen(a, lines, columns)) != 0 {
					return k
				}
			}
		}
	}
	return 0
}

// minors tells the leading determinants of the rows' products.
func minors(a rows) []api.Z {
	var list []api.Z
	first := []int{}
	for k := 0; k <= len(a); k++ {
		list = append(list, proof.Z(int64(real(det(chosen(a.Gram(), first, first))))))
		first = append(first, k)
	}
	return list
}

// solution tells what makes a vector of rows that are independent, where there is such a thing: quotients of determinants, of columns where that of the rows is not 0.
func solution(a rows, v []complex128) []api.C {
	lines := choices(len(a), len(a))[0]
	for _, columns := range choices(len(v), len(a)) {
		all := det(chosen(a, lines, columns))
		if all == 0 {
			continue
		}
		var list []api.C
		for i := range a {
			changed := a.Copied()
			changed[i] = v
			list = append(list, quotient(det(chosen(changed, lines, columns)), all))
		}
		return list
	}
	return nil
}

// quotient tells a / b as it must be answered. b is not 0.
func quotient(a, b complex128) api.C {
	top := a * proof.Conj(b)
	return api.C{Re: lowest(real(top), proof.Norm(b)), Im: lowest(imag(top), proof.Norm(b))}
}

func lowest(n, d float64) api.Q {
	x, y := int64(n), int64(d)
	for y != 0 {
		x, y = y, x%y
	}
	x = max(x, -x)
	return proof.Q(int64(n)/x, int64(d)/x)
}

// samples are matrices of all small sizes: without noughts and with many, of all ranks.
func samples() []rows {
	list := []rows{nil, {{}}, {{}, {}}, {{}, {}, {}}}
	d := proof.Dice(1)
	sparse := func(i, j int) complex128 {
		if d.Next(5) > 1 {
			return 0
		}
		return d.Small(2)
	}
	for height := 1; height <= 4; height++ {
		for width := 1; width <= 5; width++ {
			list = append(list, d.Rows(height, width, 9))
			for range 6 {
				list = append(list, d.Rows(height, width, 1), proof.Made(height, width, sparse))
			}
			for r := range min(height, width) {
				list = append(list, d.Rows(height, r, 2).Times(d.Rows(r, width, 2)))
			}
		}
	}
	return list
}

// squares are those of the samples that have as many rows as columns, and more of them.
func squares() []rows {
	list := slices.DeleteFunc(samples(), func(a rows) bool { return len(a) != a.Width() })
	d := proof.Dice(2)
	for n := 2; n <= 5; n++ {
		for range 30 {
			list = append(list, proof.Made(n, n, func(i, j int) complex128 { return d.Small(1) * complex(float64(d.Next(2)), 0) }))
		}
	}
	return list
}

// tiny are all matrices of two rows and columns whose numbers have parts of at most 1 in amount.
func tiny() []rows {
	var list []rows
	for _, x := range proof.Lists(proof.Square(1), 4) {
		list = append(list, rows{{x[0].(complex128), x[1].(complex128)}, {x[2].(complex128), x[3].(complex128)}})
	}
	return list
}

// flags are all matrices of three rows and columns of 0 and 1.
func flags() []rows {
	var list []rows
	for k := range 1 << 9 {
		list = append(list, proof.Made(3, 3, func(i, j int) complex128 { return complex(float64(k>>(3*i+j)&1), 0) }))
	}
	return list
}

// unimodular tells n rows whose determinant is a unit, made of ones by steps on rows.
func unimodular(d *proof.Dice, n int) rows {
	units := []complex128{1, 1i, -1, -1i}
	a := proof.Made(n, n, func(i, j int) complex128 {
		if i == j {
			return units[d.Next(4)]
		}
		return 0
	})
	for range 3 * n * min(n-1, 1) {
		i := d.Next(n)
		j := (i + 1 + d.Next(n-1)) % n
		q := d.Small(1)
		for k := range a[i] {
			a[i][k] += q * a[j][k]
		}
		l := d.Next(n)
		a[l], a[0] = a[0], a[l]
	}
	return a
}

// detOf is det of long numbers, made by gint.
func detOf(a api.M) api.G {
	if len(a) == 0 {
		return g(1, 0)
	}
	sum := api.G{}
	for j, x := range a[0] {
		sum = gint.Add(sum, gint.Mul(gint.Turn(x, 2*j), detOf(without(a, 0, j))))
	}
	return sum
}

// adjugateOf is adjugate of long numbers.
func adjugateOf(a api.M) api.M {
	list := make(api.M, len(a))
	for i := range a {
		for j := range a {
			list[i] = append(list[i], gint.Turn(detOf(without(a, j, i)), 2*(i+j)))
		}
	}
	return list
}

// made tells the sum of the rows, each times its rational.
func made(t proof.T, x []api.C, m api.M) []api.C {
	ok := proof.Must[api.C](t)
	var list []api.C
	for j := range m[0] {
		sum := gfrac.Of(api.G{})
		for i, row := range m {
			sum = ok(gfrac.Add(sum, ok(gfrac.Mul(x[i], gfrac.Of(row[j])))))
		}
		list = append(list, sum)
	}
	return list
}

// uprights tells of each row the part that stands upright on all rows ahead, which are independent.
func uprights(t proof.T, m api.M) [][]api.C {
	ok := proof.Must[api.C](t)
	var list [][]api.C
	for _, row := range m {
		left := rationals(row)
		for _, u := range list {
			along := gfrac.Of(api.G{})
			for j, x := range row {
				along = ok(gfrac.Add(along, ok(gfrac.Mul(gfrac.Of(x), ok(gfrac.Conj(u[j]))))))
			}
			along = ok(gfrac.Quo(along, api.C{Re: lengthOf(t, u), Im: proof.Q(0, 1)}))
			for j, y := range u {
				left[j] = ok(gfrac.Sub(left[j], ok(gfrac.Mul(along, y))))
			}
		}
		list = append(list, left)
	}
	return list
}

// lengthOf tells the sum of the norms.
func lengthOf(t proof.T, v []api.C) api.Q {
	ok := proof.Must[api.Q](t)
	sum := proof.Q(0, 1)
	for _, x := range v {
		sum = ok(frac.Add(sum, ok(gfrac.Norm(x))))
	}
	return sum
}

// unwound tells a matrix made of ones by steps on rows, and the one with which it makes ones: the same steps back, on columns.
func unwound(t proof.T, d *proof.Dice, n, steps, size int) (m, back api.M) {
	ok := proof.Must[api.M](t)
	m, back = ok(gmat.Ident(n)), ok(gmat.Ident(n))
	for range steps {
		i := d.Next(n)
		j := (i + 1 + d.Next(n-1)) % n
		q := d.G(size)
		step := ok(gmat.Turn(ok(gmat.AddRow(ok(gmat.Swap(ok(gmat.Ident(n)), i, j)), i, j, q)), j, 1))
		undo := ok(gmat.Swap(ok(gmat.AddRow(ok(gmat.Turn(ok(gmat.Ident(n)), j, -1)), i, j, gint.Neg(q))), i, j))
		m, back = ok(gmat.Mul(step, m)), ok(gmat.Mul(back, undo))
	}
	return m, back
}

// rationals tells a vector's numbers as rationals.
func rationals(v []api.G) []api.C {
	var list []api.C
	for _, x := range v {
		list = append(list, gfrac.Of(x))
	}
	return list
}

// show tells a matrix of long numbers for one who reads a fault.
func show(m api.M) string {
	text := ""
	for _, row := range m {
		for _, x := range row {
			text += " " + gint.Text(x)
		}
		text += ";"
	}
	return fmt.Sprint(len(m), " rows:", text)
}
