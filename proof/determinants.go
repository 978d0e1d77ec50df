package proof

import "slices"

// Sign is that of a place whose row and column have this sum.
func Sign(sum int) complex128 {
	if sum%2 == 1 {
		return -1
	}
	return 1
}

// Without tells what is left of rows without one of them, and without a column.
func Without[V any, L ~[][]V](a L, i, j int) L {
	var left L
	for k, row := range a {
		if k != i {
			left = append(left, slices.Delete(slices.Clone(row), j, j+1))
		}
	}
	return left
}

// Det tells the determinant by the first row: each of its numbers times the determinant of what is left.
func (a Rows) Det() complex128 {
	if len(a) == 0 {
		return 1
	}
	sum := complex128(0)
	for j, x := range a[0] {
		sum += Sign(j) * x * Without(a, 0, j).Det()
	}
	return sum
}

// Choices lists all ways to choose k of the numbers below n, rising.
func Choices(n, k int) [][]int {
	if k == 0 {
		return [][]int{nil}
	}
	var list [][]int
	for last := k - 1; last < n; last++ {
		for _, ahead := range Choices(last, k-1) {
			list = append(list, append(ahead[:len(ahead):len(ahead)], last))
		}
	}
	return list
}

// Chosen tells the numbers where these rows and columns meet.
func (a Rows) Chosen(lines, columns []int) Rows {
	return Made(len(lines), len(columns), func(i, j int) complex128 { return a[lines[i]][columns[j]] })
}

// Dets lists the determinants of all choices of k rows and k columns.
func (a Rows) Dets(k int) []complex128 {
	var list []complex128
	for _, lines := range Choices(len(a), k) {
		for _, columns := range Choices(a.Width(), k) {
			list = append(list, a.Chosen(lines, columns).Det())
		}
	}
	return list
}

// Rank tells how many rows and columns at the most meet in numbers whose determinant is not 0.
func (a Rows) Rank() int {
	for k := min(len(a), a.Width()); k > 0; k-- {
		if slices.ContainsFunc(a.Dets(k), func(x complex128) bool { return x != 0 }) {
			return k
		}
	}
	return 0
}

// Contains tells whether a module contains another one, of as many columns: it has the same rank and the same divisor of all determinants of so many rows, when the other one's rows are laid below its own.
func (a Rows) Contains(b Rows) bool {
	all, rank := append(a[:len(a):len(a)], b...), a.Rank()
	return all.Rank() == rank && Gcd(all.Dets(rank)...) == Gcd(a.Dets(rank)...)
}
