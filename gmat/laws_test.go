package gmat_test

import (
	"fmt"
	"testing"

	"tessel/api"
	"tessel/gint"
	"tessel/gmat"
	"tessel/proof"
)

func TestLawsOfProducts(t *testing.T) { // P8.5
	d, ok := proof.Dice(7), proof.Must[api.M](t)
	for range 60 {
		k, l, m, n := 1+d.Next(4), 1+d.Next(4), 1+d.Next(4), 1+d.Next(4)
		a, b, c, other := d.M(k, l, 4), d.M(l, m, 3), d.M(m, n, 4), d.M(l, m, 5)
		ab, bc := ok(gmat.Mul(a, b)), ok(gmat.Mul(b, c))
		what := fmt.Sprintf(" of %s, %s, %s", show(a), show(b), show(c))
		proof.Is(t, "(a b) c = a (b c)"+what, ok(gmat.Mul(ab, c)), ok(gmat.Mul(a, bc)))
		proof.Is(t, "Adj of a product"+what, ok(gmat.Adj(ab)), ok(gmat.Mul(ok(gmat.Adj(b)), ok(gmat.Adj(a)))))
		proof.Is(t, "Trans of a product"+what, ok(gmat.Trans(ab)), ok(gmat.Mul(ok(gmat.Trans(b)), ok(gmat.Trans(a)))))
		proof.Is(t, "a (b + b') = a b + a b'"+what, ok(gmat.Mul(a, ok(gmat.Add(b, other)))), ok(gmat.Add(ab, ok(gmat.Mul(a, other)))))
		proof.Is(t, "(b - b') + b' = b"+what, ok(gmat.Add(ok(gmat.Sub(b, other)), other)), proof.Canon(b))
		proof.Is(t, "1 a = a"+what, ok(gmat.Mul(ok(gmat.Ident(k)), a)), proof.Canon(a))
		proof.Is(t, "a 1 = a"+what, ok(gmat.Mul(a, ok(gmat.Ident(l)))), proof.Canon(a))
		proof.Is(t, "Adj of Adj"+what, ok(gmat.Adj(ok(gmat.Adj(a)))), proof.Canon(a))
		gram := ok(gmat.Gram(a))
		proof.Is(t, "Gram is its own Adj"+what, ok(gmat.Adj(gram)), gram)
		proof.Is(t, "Gram = a Adj(a)"+what, gram, ok(gmat.Mul(a, ok(gmat.Adj(a)))))
		x := d.G(3)
		proof.Is(t, "x (a b) = a (x b)"+what, ok(gmat.Scale(ab, x)), ok(gmat.Mul(a, ok(gmat.Scale(b, x)))))
		row := proof.Must[[]api.G](t)(gmat.Times(a[0], b))
		proof.Is(t, "a row of the product"+what, row, ab[0])
	}
}

func TestLawsOfRows(t *testing.T) { // P8.2, P8.5: a step on rows is the product with what it makes of Ident
	d, ok := proof.Dice(8), proof.Must[api.M](t)
	for range 60 {
		n, q, k := 2+d.Next(4), d.G(3), d.Next(100)-50
		m, one := d.M(n, 1+d.Next(4), 5), ok(gmat.Ident(n))
		i := d.Next(n)
		j := (i + 1 + d.Next(n-1)) % n
		what := fmt.Sprintf("(%s, %d, %d)", show(m), i, j)
		proof.Is(t, "AddRow"+what, ok(gmat.AddRow(m, i, j, q)), ok(gmat.Mul(ok(gmat.AddRow(one, i, j, q)), m)))
		proof.Is(t, "Swap"+what, ok(gmat.Swap(m, i, j)), ok(gmat.Mul(ok(gmat.Swap(one, i, j)), m)))
		proof.Is(t, "Turn"+what, ok(gmat.Turn(m, i, k)), ok(gmat.Mul(ok(gmat.Turn(one, i, k)), m)))
		back := ok(gmat.AddRow(ok(gmat.AddRow(m, i, j, q)), i, j, gint.Neg(q)))
		if !gmat.Equal(back, m) || !gmat.Equal(ok(gmat.Swap(ok(gmat.Swap(m, i, j)), j, i)), m) || !gmat.Equal(ok(gmat.Turn(ok(gmat.Turn(m, i, k)), i, -k)), m) {
			t.Errorf("there and back%s: not the same", what)
		}
	}
}
