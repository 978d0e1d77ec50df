package gres_test

import (
	"fmt"
	"testing"

	"tessel/api"
	"tessel/gint"
	"tessel/gres"
	"tessel/proof"
	"tessel/zint"
)

func TestReduceAgainstMachine(t *testing.T) { // P5.1
	for _, m := range moduli(5) {
		residues := residuesOf(m)
		for _, a := range proof.Square(7) {
			want := whole(residueOf(residues, a, m))
			for k, x := range forms(a) {
				y := forms(m)[3-k]
				got, e := gres.Reduce(x, y)
				proof.Taken(t, called("Reduce", x, y), got, e, want)
			}
		}
	}
}

func TestReduceAtSides(t *testing.T) { // P5.1: the square's lower and left side belong to it, those across do not
	for _, c := range []struct{ a, m, want complex128 }{
		{1, 2, -1}, {-1, 2, -1}, {1i, 2, -1i}, {-1i, 2, -1i}, {1 + 1i, 2, -1 - 1i}, {1 - 1i, 2, -1 - 1i}, {-1 + 1i, 2, -1 - 1i}, {-1 - 1i, 2, -1 - 1i},
		{1, -2, 1}, {-1, -2, 1}, {1i, -2, 1i}, {-1i, -2, 1i}, {1, 2i, 1}, {-1, 2i, 1}, {1i, 2i, -1i}, {1, -2i, -1}, {1i, -2i, 1i},
		{1, 1 + 1i, -1i}, {5, 1 + 1i, -1i}, {1, -1 + 1i, 1}, {1, -1 - 1i, 1i}, {1, 1 - 1i, -1},
		{7 + 3i, 2, -1 - 1i}, {3, 1i, 0}, {0, 7, 0}, {7, 7, 0}, {3, 7, 3}, {4, 7, -3}, {-3, 7, -3}, {3i, 6, -3i},
	} {
		got, e := gres.Reduce(whole(c.a), whole(c.m))
		proof.Taken(t, fmt.Sprintf("Reduce(%v, %v)", c.a, c.m), got, e, whole(c.want))
	}
}

func TestReduceLong(t *testing.T) { // P5.1
	d := proof.Dice(1)
	for range 500 {
		a, m := d.G(12), d.GNotZero(1+d.Next(9))
		got, e := gres.Reduce(a, m)
		isResidue(t, called("Reduce", a, m), got, e, a, m)
		again, e := gres.Reduce(got, m)
		proof.Taken(t, called("Reduce", got, m), again, e, got)
		other, e := gres.Reduce(gint.Add(a, gint.Mul(d.G(5), m)), m)
		proof.Taken(t, "one more multiple: "+called("Reduce", a, m), other, e, got)
	}
}

func TestMul(t *testing.T) { // P5.1
	for _, m := range moduli(3) {
		residues := residuesOf(m)
		for _, a := range proof.Square(3) {
			for _, b := range proof.Square(3) {
				got, e := gres.Mul(whole(a), whole(b), whole(m))
				proof.Taken(t, fmt.Sprintf("Mul(%v, %v, %v)", a, b, m), got, e, whole(residueOf(residues, a*b, m)))
			}
		}
	}
	d := proof.Dice(2)
	for range 300 {
		a, b, m := d.G(9), d.G(9), d.GNotZero(1+d.Next(12))
		got, e := gres.Mul(a, b, m)
		isResidue(t, called("Mul", a, b, m), got, e, gint.Mul(a, b), m)
	}
}

func TestPowAgainstMachine(t *testing.T) { // P5.1
	for _, m := range moduli(3) {
		residues := residuesOf(m)
		for _, a := range proof.Square(3) {
			want := residueOf(residues, 1, m)
			for n := range 18 {
				what := fmt.Sprintf("Pow(%v, %d, %v)", a, n, m)
				got, e := gres.Pow(whole(a), z(int64(n)), whole(m))
				proof.Taken(t, what, got, e, whole(want))
				form, e := gres.Pow(forms(a)[n%4], proof.Longer(z(int64(n))), forms(m)[3-n%4])
				proof.Taken(t, what+" in another form", form, e, whole(want))
				want = residueOf(residues, want*a, m)
			}
		}
	}
}

func TestPowEdges(t *testing.T) { // P5.1
	for _, n := range proof.Noughts() { // a^0 is 1, of 0 too; below a unit all is 0
		for _, a := range append(proof.GNoughts()[:1], g(1, 0), g(-4, 7), api.G{Re: proof.Power2(200)}) {
			got, e := gres.Pow(a, n, g(5, 0))
			proof.Taken(t, called("Pow of 0 times ", a), got, e, g(1, 0))
			got, e = gres.Pow(a, n, g(1, 1))
			proof.Taken(t, called("Pow of 0 times ", a), got, e, g(0, -1))
			got, e = gres.Pow(a, n, g(0, -1))
			proof.Taken(t, called("Pow of 0 times ", a), got, e, g(0, 0))
		}
	}
	long := proof.Power2(1000)
	for _, c := range []struct {
		a    api.G
		n    api.Z
		m    api.G
		want api.G
	}{
		{g(0, 0), long, g(5, 0), g(0, 0)}, {g(1, 0), long, g(5, 0), g(1, 0)}, {g(-1, 0), long, g(5, 0), g(1, 0)}, {g(0, 1), zint.Sub(long, z(1)), g(5, 0), g(0, -1)},
		{g(2, 0), long, g(3, 0), g(1, 0)}, {g(2, 0), zint.Add(long, z(1)), g(3, 0), g(-1, 0)}, {g(1, 1), long, g(2, 0), g(0, 0)}, {g(2, 0), z(10), g(3, 2), g(0, 2)},
		{g(2, 0), z(100), api.G{Re: proof.Power2(101)}, api.G{Re: zint.Neg(proof.Power2(100))}}, {g(2, 0), z(100), api.G{Re: proof.Power2(100)}, g(0, 0)},
		{g(2, 0), z(1 << 32), g(5, 0), g(1, 0)}, {g(2, 0), z(1<<32 + 1), g(5, 0), g(2, 0)}, {g(2, 0), z(1 << 31), g(7, 0), g(-3, 0)},
	} {
		got, e := gres.Pow(c.a, c.n, c.m)
		proof.Taken(t, called("Pow by "+zint.Text(c.n), c.a, c.m), got, e, c.want)
	}
}

func TestPowLong(t *testing.T) { // P5.1: a^(n + k) is a^n a^k, and a^(n k) the power of a power
	d := proof.Dice(3)
	for range 150 {
		a, m, n, k := d.G(6), d.GNotZero(1+d.Next(5)), zint.Abs(d.Z(3)), zint.Abs(d.Z(3))
		what := called("Pow by "+zint.Text(n)+" and "+zint.Text(k), a, m)
		first, e := gres.Pow(a, n, m)
		isResidue(t, what, first, e, first, m)
		second, _ := gres.Pow(a, k, m)
		both, e := gres.Pow(a, zint.Add(n, k), m)
		isResidue(t, what, both, e, gint.Mul(first, second), m)
		again, e := gres.Pow(first, k, m)
		product, _ := gres.Pow(a, zint.Mul(n, k), m)
		proof.Taken(t, what, again, e, product)
	}
	for range 50 {
		a, m, n := d.G(3), d.GNotZero(4), d.Next(40)
		want := g(1, 0)
		for range n {
			want = gint.Mul(want, a)
		}
		got, e := gres.Pow(a, z(int64(n)), m)
		isResidue(t, called(fmt.Sprint("Pow by ", n), a, m), got, e, want, m)
	}
}

func TestPowBelowZero(t *testing.T) { // P5.1: ErrArg, behind ErrZero
	for _, n := range []api.Z{z(-1), z(-2), z(-1 << 40), proof.Longer(z(-1)), zint.Neg(proof.Power2(100))} {
		for _, m := range []api.G{g(5, 0), g(0, 1), g(-3, 2), {Re: proof.Power2(100)}} {
			for _, a := range []api.G{{}, g(1, 0), g(2, 3)} {
				got, e := gres.Pow(a, n, m)
				proof.Refused(t, called("Pow by "+zint.Text(n), a, m), got, e, api.ErrArg)
			}
		}
		for _, m := range proof.GNoughts() {
			got, e := gres.Pow(g(2, 1), n, m)
			proof.Refused(t, called("Pow by "+zint.Text(n), m), got, e, api.ErrZero)
		}
	}
}

func TestCount(t *testing.T) { // P5.1
	for _, m := range moduli(6) {
		for _, x := range forms(m) {
			got, e := gres.Count(x)
			proof.Taken(t, called("Count", x), got, e, z(int64(len(residuesOf(m)))))
		}
	}
	got, e := gres.Count(g(65, 0)) // above what is listed
	proof.Taken(t, "Count(65)", got, e, z(4225))
	got, e = gres.Count(api.G{Re: proof.Power2(300), Im: proof.Power2(200)})
	proof.Taken(t, "Count of a long number", got, e, zint.Add(proof.Power2(600), proof.Power2(400)))
}

func TestModulusZero(t *testing.T) { // P5.1 to P5.3: all calls are refused, whatever else is wrong
	for _, m := range proof.GNoughts() {
		for _, a := range append(proof.GNoughts()[:3], g(1, 0), g(-3, 2), api.G{Im: proof.Power2(100)}) {
			what := called("a modulus of 0", a)
			got, e := gres.Reduce(a, m)
			proof.Refused(t, what+": Reduce", got, e, api.ErrZero)
			got, e = gres.Mul(a, g(2, 1), m)
			proof.Refused(t, what+": Mul", got, e, api.ErrZero)
			got, e = gres.Pow(a, z(2), m)
			proof.Refused(t, what+": Pow", got, e, api.ErrZero)
			got, e = gres.Pow(a, z(0), m)
			proof.Refused(t, what+": Pow by 0", got, e, api.ErrZero)
			got, e = gres.Inverse(a, m)
			proof.Refused(t, what+": Inverse", got, e, api.ErrZero)
			for _, n := range []api.G{g(1, 0), g(0, -1), g(4, 2), {}} {
				got, e = gres.Crt(a, m, g(2, 1), n)
				proof.Refused(t, what+": Crt, the first", got, e, api.ErrZero)
				got, e = gres.Crt(a, n, g(2, 1), m)
				proof.Refused(t, what+": Crt, the second", got, e, api.ErrZero)
			}
			count, e := gres.Order(a, m)
			proof.Refused(t, what+": Order", count, e, api.ErrZero)
		}
		count, e := gres.Count(m)
		proof.Refused(t, "Count(0)", count, e, api.ErrZero)
		list, e := gres.All(m)
		proof.Refused(t, "All(0)", list, e, api.ErrZero)
		units, e := gres.Units(m)
		proof.Refused(t, "Units(0)", units, e, api.ErrZero)
	}
}
