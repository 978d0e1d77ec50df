package gmod_test

import (
	"testing"

	"tessel/api"
	"tessel/ghnf"
	"tessel/gmat"
	"tessel/gmod"
	"tessel/proof"
	"tessel/zint"
)

// drawn tells a matrix of this width: of any numbers, or of such as many modules have in common.
func drawn(d *proof.Dice, width, k int) api.M {
	if k%2 == 0 {
		return d.Rows(1+d.Next(3), width, 1+k%3).Whole()
	}
	return d.M(1+d.Next(4), width, k%3)
}

// inner tells rows that a matrix's rows make.
func inner(t *testing.T, d *proof.Dice, m api.M) api.M {
	return proof.Must[api.M](t)(gmat.Mul(d.Rows(1+d.Next(len(m)+1), len(m), 2).Whole(), m))
}

func TestLattice(t *testing.T) { // P12.4: sums and meets of two, and of three
	d, ok := proof.Dice(12), proof.Must[api.M](t)
	for k := range 200 {
		width := 1 + d.Next(4)
		a, b := drawn(&d, width, k), drawn(&d, width, k)
		c, what := inner(t, &d, a), " of "+proof.Told(a, b)
		sum, meet := ok(gmod.Sum(a, b)), ok(gmod.Meet(a, b))
		proof.Is(t, "Sum"+what+", turned round", ok(gmod.Sum(b, a)), sum)
		proof.Is(t, "Meet"+what+", turned round", ok(gmod.Meet(b, a)), meet)
		proof.Is(t, "Meet with Sum"+what, ok(gmod.Meet(a, sum)), form(a))
		proof.Is(t, "Sum with Meet"+what, ok(gmod.Sum(a, meet)), form(a))
		proof.Is(t, "the modular law"+what, ok(gmod.Meet(a, ok(gmod.Sum(b, c)))), ok(gmod.Sum(meet, c)))
		for _, inside := range [][2]api.M{{a, c}, {a, meet}, {b, meet}, {sum, a}, {sum, b}} {
			is, e := gmod.Contains(inside[0], inside[1])
			proof.Taken(t, "Contains of "+proof.Told(inside[0], inside[1]), is, e, true)
		}
	}
}

func TestQuotients(t *testing.T) { // P12.4: of the meet in one, and of the other one in the sum; over chains
	d, ok, ends := proof.Dice(13), proof.Must[api.M](t), map[api.Errno]int{}
	for k := range 200 {
		width := 1 + d.Next(4)
		a, b := drawn(&d, width, k), drawn(&d, width, k)
		c, what := inner(t, &d, inner(t, &d, a)), " of "+proof.Told(a, b)
		count, e := gmod.Quotient(a, ok(gmod.Meet(a, b)))
		other, f := gmod.Quotient(ok(gmod.Sum(a, b)), b)
		ends[e]++
		if e != f || !proof.Alike(count, other) {
			t.Errorf("Quotient by Meet%s: %v, error %d; of Sum: %v, error %d", what, count, e, other, f)
		}
		if e != api.OK {
			proof.Refused(t, "Quotient by Meet"+what, count, e, api.ErrNone)
		}
		b = ok(gmod.Sum(inner(t, &d, a), c))
		first, e := gmod.Quotient(a, b)
		second, f := gmod.Quotient(b, c)
		all, h := gmod.Quotient(a, c)
		if (e == api.OK && f == api.OK) != (h == api.OK) || h == api.OK && !proof.Alike(all, zint.Mul(first, second)) {
			t.Errorf("Quotient of %s: %v, %v, errors %d, %d; and of all %v, error %d", proof.Told(a, b, c), first, second, e, f, all, h)
		}
	}
	if ends[api.OK] < 40 || ends[api.ErrNone] < 40 {
		t.Errorf("how often Quotient ends so: %v", ends)
	}
}

func TestQuotientOfAll(t *testing.T) { // P12.3, P12.4: of all vectors it is Index
	d, ok := proof.Dice(14), proof.Must[api.M](t)
	for k := range 100 {
		width := 1 + d.Next(4)
		m := drawn(&d, width, k)
		count, e := gmod.Quotient(ok(gmat.Ident(width)), m)
		index, f := ghnf.Index(m)
		if e != f || !proof.Alike(count, index) {
			t.Errorf("Quotient of all by %s: %v, error %d; Index: %v, error %d", proof.Told(m), count, e, index, f)
		}
		// Of the closure all have the rank, so that there is always a number.
		count, e = gmod.Quotient(ok(gmod.Closure(m)), m)
		if e != api.OK || len(count.Mag) == 0 || count.Neg {
			t.Errorf("Quotient of the closure by %s: %v, error %d", proof.Told(m), count, e)
		}
	}
}

func TestClosures(t *testing.T) { // P12.4: the closure's is itself; it contains the module, with the same rank, and is what the kernel's columns make 0 of
	d, ok := proof.Dice(15), proof.Must[api.M](t)
	for k := range 150 {
		m := drawn(&d, 1+d.Next(5), k)
		closed, what := ok(gmod.Closure(m)), " of "+proof.Told(m)
		proof.Is(t, "Closure of Closure"+what, ok(gmod.Closure(closed)), closed)
		is, e := gmod.Contains(closed, m)
		proof.Taken(t, "Contains of Closure"+what, is, e, true)
		proof.Is(t, "the rank of Closure"+what, len(closed), len(form(m)))
		columns := ok(gmod.Kernel(ok(gmat.Trans(m))))
		if len(columns) > 0 {
			proof.Is(t, "Kernel of Kernel"+what, ok(gmod.Kernel(ok(gmat.Trans(columns)))), closed)
		} else {
			proof.Is(t, "Closure of the whole rank"+what, closed, ok(gmat.Ident(len(m[0]))))
		}
	}
}

func TestForms(t *testing.T) { // all answers are in Hermite form, whatever the rows that make a module
	d, ok := proof.Dice(16), proof.Must[api.M](t)
	steps := func() api.G { return d.G(1) }
	for k := range 60 {
		width := 1 + d.Next(4)
		a, b, m := drawn(&d, width, k), drawn(&d, width, k), d.M(width, d.Next(4), k%3)
		other, c := d.Mixed(a, steps), d.Mixed(b, steps)
		for what, made := range map[string][2]api.M{
			"Sum":     {ok(gmod.Sum(a, b)), ok(gmod.Sum(other, c))},
			"Meet":    {ok(gmod.Meet(a, b)), ok(gmod.Meet(other, c))},
			"Scale":   {ok(gmod.Scale(a, g(2, 3))), ok(gmod.Scale(other, g(-3, 2)))},
			"Image":   {ok(gmod.Image(a, m)), ok(gmod.Image(other, m))},
			"Closure": {ok(gmod.Closure(a)), ok(gmod.Closure(other))},
			"Kernel":  {ok(gmod.Kernel(m)), form(ok(gmod.Kernel(m)))},
		} {
			proof.Is(t, what+" of "+proof.Told(a, b, m), made[0], form(made[0]))
			proof.Is(t, what+" of other rows of "+proof.Told(a, b, m), made[1], made[0])
		}
	}
}
