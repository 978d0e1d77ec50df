package ghnf_test

import (
	"testing"

	"tessel/api"
	"tessel/gdet"
	"tessel/ghnf"
	"tessel/gint"
	"tessel/gmat"
	"tessel/proof"
)

func TestOneForm(t *testing.T) { // P10.4: whatever of the rows is changed that leaves the module
	d, ok := proof.Dice(9), proof.Must[api.M](t)
	for k := range 120 {
		height, width := 2+d.Next(4), 1+d.Next(5)
		m := d.M(height, width, k%4)
		form, what := ok(ghnf.Form(m)), " of "+proof.Told(m)
		i := d.Next(height)
		j := (i + 1 + d.Next(height-1)) % height
		member := sum(make([]api.G, width), d.Vector(height, 2), m)
		for _, c := range []struct {
			what string
			m    api.M
		}{
			{"Form", form}, {"rows exchanged", ok(gmat.Swap(m, i, j))}, {"a multiple of a row added", ok(gmat.AddRow(m, i, j, d.G(3)))}, {"a row times a unit", ok(gmat.Turn(m, i, d.Next(4)))},
			{"a member below", append(m[:height:height], member)}, {"a member above", append(api.M{member}, m...)},
		} {
			got, e := ghnf.Form(c.m)
			proof.Taken(t, "Form"+what+", "+c.what, got, e, form)
			is, e := ghnf.Same(c.m, m)
			proof.Taken(t, "Same"+what+", "+c.what, is, e, true)
		}
	}
}

func TestIndexOfSquares(t *testing.T) { // P10.4: the norm of the determinant
	d, infinite := proof.Dice(10), 0
	for k := range 120 {
		n := k % 6
		m := d.M(n, n, 1+k%3)
		if n > 1 && k%5 == 0 {
			m[0] = sum(make([]api.G, n), d.Vector(n-1, 1), m[1:])
		}
		det := proof.Must[api.G](t)(gdet.Det(m))
		index, e := ghnf.Index(m)
		if isZero(det) {
			infinite++
			proof.Refused(t, "Index of "+proof.Told(m), index, e, api.ErrNone)
		} else {
			proof.Taken(t, "Index of "+proof.Told(m), index, e, gint.Norm(det))
		}
	}
	if infinite < 10 || infinite > 60 {
		t.Errorf("%d of 120 are infinite", infinite)
	}
}

func TestRestsOfMembers(t *testing.T) { // P10.4: a vector less its rest is a member; those of one rest differ by one
	d, ok, ends := proof.Dice(11), proof.Must[[]api.G](t), map[bool]int{}
	for k := range 120 {
		width := 1 + d.Next(4)
		m := drawn(&d, d.Next(width+1), width, 1, func() api.G { return proof.Whole(d.Small(2)) }).m
		if k%2 == 0 {
			m = d.M(1+d.Next(4), width, k%3)
		}
		u, v := proof.Vector(d.Rows(1, width, 2)[0]...), proof.Vector(d.Rows(1, width, 2)[0]...)
		rest := ok(ghnf.Rest(m, u))
		lifts(t, m, less(u, rest))
		proof.Is(t, "the rest of the rest", ok(ghnf.Rest(m, rest)), rest)
		_, e := ghnf.Member(m, less(u, v))
		one := proof.Alike(ok(ghnf.Rest(m, v)), rest)
		ends[one]++
		if one != (e == api.OK) {
			t.Errorf("Rest of %s: of two vectors one: %v; Member of what they differ by: error %d", proof.Told(m), one, e)
		}
	}
	if ends[true] < 10 || ends[false] < 10 {
		t.Errorf("how often it ends so: %v", ends)
	}
}

// less tells u less v.
func less(u, v []api.G) []api.G { return sum(u, []api.G{g(-1, 0)}, api.M{v}) }
