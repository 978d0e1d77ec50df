package gdet_test

import (
	"testing"

	"tessel/api"
	"tessel/frac"
	"tessel/gdet"
	"tessel/gint"
	"tessel/gmat"
	"tessel/proof"
	"tessel/zint"
)

func TestOfLong(t *testing.T) { // P9.1, P9.3: held against what is left of determinants
	d := proof.Dice(6)
	for k := range 60 {
		n := k % 5
		m := d.M(n, n, 5)
		if n > 1 && k%3 == 0 { // rows that are dependent
			m[0] = proof.Must[[]api.G](t)(gmat.Times(d.Vector(n-1, 2), m[1:]))
		}
		got, e := gdet.Det(m)
		proof.Taken(t, "Det of "+proof.Told(m), got, e, detOf(m))
		adjugate, e := gdet.Adjugate(m)
		proof.Taken(t, "Adjugate of "+proof.Told(m), adjugate, e, adjugateOf(m))
	}
}

func TestLawsOfDet(t *testing.T) { // P9.5
	d, ok, det := proof.Dice(7), proof.Must[api.M](t), proof.Must[api.G](t)
	for range 60 {
		n := 2 + d.Next(5)
		a, b, q := d.M(n, n, 3), d.M(n, n, 2), d.G(3)
		i := d.Next(n)
		j := (i + 1 + d.Next(n-1)) % n
		of, what := det(gdet.Det(a)), " of "+proof.Told(a)
		proof.Is(t, "Det of a product"+what, det(gdet.Det(ok(gmat.Mul(a, b)))), gint.Mul(of, det(gdet.Det(b))))
		proof.Is(t, "Det with two rows exchanged"+what, det(gdet.Det(ok(gmat.Swap(a, i, j)))), gint.Neg(of))
		proof.Is(t, "Det with a multiple of a row added"+what, det(gdet.Det(ok(gmat.AddRow(a, i, j, q)))), of)
		proof.Is(t, "Det with a row times i"+what, det(gdet.Det(ok(gmat.Turn(a, i, 1)))), gint.Turn(of, 1))
		proof.Is(t, "Det of Trans"+what, det(gdet.Det(ok(gmat.Trans(a)))), of)
		proof.Is(t, "Det of Adj"+what, det(gdet.Det(ok(gmat.Adj(a)))), gint.Conj(of))
		adjugate, times := ok(gdet.Adjugate(a)), ok(gmat.Scale(ok(gmat.Ident(n)), of))
		proof.Is(t, "m Adjugate(m)"+what, ok(gmat.Mul(a, adjugate)), times)
		proof.Is(t, "Adjugate(m) m"+what, ok(gmat.Mul(adjugate, a)), times)
		last := proof.Must[[]api.Z](t)(gdet.Minors(a))[n]
		proof.Is(t, "the last of Minors"+what, last, gint.Norm(of))
	}
}

func TestLawsOfRank(t *testing.T) { // P9.5
	d, ok := proof.Dice(8), proof.Must[api.M](t)
	for range 100 {
		height, width := 1+d.Next(5), 1+d.Next(5)
		r := d.Next(min(height, width) + 1)
		// Both have ones on the diagonal, and noughts on one side of it.
		left, right := stairs(&d, height, r), ok(gmat.Trans(stairs(&d, width, r)))
		if r == 0 {
			right = nil
		}
		m := make(api.M, height)
		for i := range m {
			m[i] = make([]api.G, width)
		}
		if r > 0 {
			m = ok(gmat.Mul(left, right))
		}
		rank, e := gdet.Rank(m)
		proof.Taken(t, "Rank of "+proof.Told(m), rank, e, r)
		rank, e = gdet.Rank(ok(gmat.Trans(m)))
		proof.Taken(t, "Rank of Trans of "+proof.Told(m), rank, e, r)
		list := proof.Must[[]api.Z](t)(gdet.Minors(m))
		all := proof.Must[bool](t)(gdet.Independent(m))
		if all != (r == height) || all != (zint.Sign(list[height]) != 0) {
			t.Errorf("Independent of %s: %v; Minors: %v", proof.Told(m), all, list)
		}
		for k, x := range list {
			if zint.Sign(x) < 0 || all && zint.Sign(x) == 0 || k > 0 && zint.Sign(list[k-1]) == 0 && zint.Sign(x) != 0 {
				t.Errorf("Minors of %s: %v", proof.Told(m), list)
			}
		}
	}
}

// stairs tells so many independent columns: ones on the diagonal, noughts above it.
func stairs(d *proof.Dice, height, width int) api.M {
	m := d.M(height, width, 3)
	for i, row := range m {
		for j := i; j < width; j++ {
			row[j] = api.G{}
		}
		if i < width {
			row[i] = g(1, 0)
		}
	}
	return m
}

func TestMinorsAreProducts(t *testing.T) { // P9.5: of the first k |b*_j|^2
	d, rational := proof.Dice(9), proof.Must[api.Q](t)
	for range 40 {
		height := 1 + d.Next(4)
		m := d.M(height, height+d.Next(2), 3)
		if is, _ := gdet.Independent(m); !is {
			continue
		}
		list, product := proof.Must[[]api.Z](t)(gdet.Minors(m)), proof.Q(1, 1)
		for k, v := range uprights(t, m) {
			product = rational(frac.Mul(product, lengthOf(t, v)))
			proof.Is(t, "Minors of "+proof.Told(m), api.Q{Num: list[k+1], Den: proof.Z(1)}, product)
		}
	}
}

func TestInverseOfLong(t *testing.T) { // P9.3: of ones changed by steps on rows, which are taken back
	d, ok := proof.Dice(10), proof.Must[api.M](t)
	for range 40 {
		n := 2 + d.Next(5)
		m, back := unwound(t, &d, n, 3*n, 2)
		got, e := gdet.Inverse(m)
		proof.Taken(t, "Inverse of "+proof.Told(m), got, e, back)
		got, e = gdet.Inverse(back)
		proof.Taken(t, "Inverse of the inverse of "+proof.Told(m), got, e, m)
		m[d.Next(n)] = ok(gmat.Scale(m, g(1, 1)))[0]
		got, e = gdet.Inverse(m)
		proof.Refused(t, "Inverse of "+proof.Told(m), got, e, api.ErrNone)
	}
}
