package gdet_test

import (
	"tessel/api"
	"tessel/frac"
	"tessel/gfrac"
	"tessel/gint"
	"tessel/gmat"
	"tessel/proof"
)

type rows = proof.Rows

func g(re, im int64) api.G { return proof.G(re, im) }

// adjugate tells the one by the document's words.
func adjugate(a rows) rows {
	return proof.Made(len(a), len(a), func(i, j int) complex128 { return proof.Sign(i+j) * proof.Without(a, j, i).Det() })
}

// minors tells the leading determinants of the rows' products.
func minors(a rows) []api.Z {
	var list []api.Z
	first := []int{}
	for k := 0; k <= len(a); k++ {
		list = append(list, proof.Z(int64(real(a.Gram().Chosen(first, first).Det()))))
		first = append(first, k)
	}
	return list
}

// solution tells what makes a vector of rows that are independent, where there is such a thing: quotients of determinants, of columns where that of the rows is not 0.
func solution(a rows, v []complex128) []api.C {
	lines := proof.Choices(len(a), len(a))[0]
	for _, columns := range proof.Choices(len(v), len(a)) {
		all := a.Chosen(lines, columns).Det()
		if all == 0 {
			continue
		}
		var list []api.C
		for i := range a {
			changed := a.Copied()
			changed[i] = v
			list = append(list, quotient(changed.Chosen(lines, columns).Det(), all))
		}
		return list
	}
	return nil
}

// quotient tells a / b as it must be answered. b is not 0.
func quotient(a, b complex128) api.C {
	top := a * proof.Conj(b)
	return api.C{Re: lowest(real(top), proof.Norm(b)), Im: lowest(imag(top), proof.Norm(b))}
}

func lowest(n, d float64) api.Q {
	x, y := int64(n), int64(d)
	for y != 0 {
		x, y = y, x%y
	}
	x = max(x, -x)
	return proof.Q(int64(n)/x, int64(d)/x)
}

// detOf is det of long numbers, made by gint.
func detOf(a api.M) api.G {
	if len(a) == 0 {
		return g(1, 0)
	}
	sum := api.G{}
	for j, x := range a[0] {
		sum = gint.Add(sum, gint.Mul(gint.Turn(x, 2*j), detOf(proof.Without(a, 0, j))))
	}
	return sum
}

// adjugateOf is adjugate of long numbers.
func adjugateOf(a api.M) api.M {
	list := make(api.M, len(a))
	for i := range a {
		for j := range a {
			list[i] = append(list[i], gint.Turn(detOf(proof.Without(a, j, i)), 2*(i+j)))
		}
	}
	return list
}

// made tells the sum of the rows, each times its rational.
func made(t proof.T, x []api.C, m api.M) []api.C {
	ok := proof.Must[api.C](t)
	var list []api.C
	for j := range m[0] {
		sum := gfrac.Of(api.G{})
		for i, row := range m {
			sum = ok(gfrac.Add(sum, ok(gfrac.Mul(x[i], gfrac.Of(row[j])))))
		}
		list = append(list, sum)
	}
	return list
}

// uprights tells of each row the part that stands upright on all rows ahead, which are independent.
func uprights(t proof.T, m api.M) [][]api.C {
	ok := proof.Must[api.C](t)
	var list [][]api.C
	for _, row := range m {
		left := rationals(row)
		for _, u := range list {
			along := gfrac.Of(api.G{})
			for j, x := range row {
				along = ok(gfrac.Add(along, ok(gfrac.Mul(gfrac.Of(x), ok(gfrac.Conj(u[j]))))))
			}
			along = ok(gfrac.Quo(along, api.C{Re: lengthOf(t, u), Im: proof.Q(0, 1)}))
			for j, y := range u {
				left[j] = ok(gfrac.Sub(left[j], ok(gfrac.Mul(along, y))))
			}
		}
		list = append(list, left)
	}
	return list
}

// lengthOf tells the sum of the norms.
func lengthOf(t proof.T, v []api.C) api.Q {
	ok := proof.Must[api.Q](t)
	sum := proof.Q(0, 1)
	for _, x := range v {
		sum = ok(frac.Add(sum, ok(gfrac.Norm(x))))
	}
	return sum
}

// unwound tells a matrix made of ones by steps on rows, and the one with which it makes ones: the same steps back, on columns.
func unwound(t proof.T, d *proof.Dice, n, steps, size int) (m, back api.M) {
	ok := proof.Must[api.M](t)
	m, back = ok(gmat.Ident(n)), ok(gmat.Ident(n))
	for range steps {
		i := d.Next(n)
		j := (i + 1 + d.Next(n-1)) % n
		q := d.G(size)
		step := ok(gmat.Turn(ok(gmat.AddRow(ok(gmat.Swap(ok(gmat.Ident(n)), i, j)), i, j, q)), j, 1))
		undo := ok(gmat.Swap(ok(gmat.AddRow(ok(gmat.Turn(ok(gmat.Ident(n)), j, -1)), i, j, gint.Neg(q))), i, j))
		m, back = ok(gmat.Mul(step, m)), ok(gmat.Mul(back, undo))
	}
	return m, back
}

// rationals tells a vector's numbers as rationals.
func rationals(v []api.G) []api.C {
	var list []api.C
	for _, x := range v {
		list = append(list, gfrac.Of(x))
	}
	return list
}
