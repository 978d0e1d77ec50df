package ghnf_test

import (
	"fmt"
	"testing"

	"tessel/api"
	"tessel/ghnf"
	"tessel/gint"
	"tessel/proof"
	"tessel/zint"
)

func TestForm(t *testing.T) { // P10.1: of small matrices: it is in Hermite form, and has their module, as determinants tell
	ok := proof.Must[api.M](t)
	for _, list := range [][]rows{proof.Samples(), proof.Squares(), proof.Tiny(), proof.Flags()} {
		for _, a := range list {
			if len(a)*a.Width() > 16 {
				continue // their determinants take too long
			}
			form := ok(ghnf.Form(a.Whole()))
			h, what := proof.Seen(form), fmt.Sprint("Form of ", a)
			if !isForm(h) || !a.Contains(h) || !h.Contains(a) {
				t.Errorf("%s: %v", what, h)
			}
			for _, m := range a.Forms() {
				got, e := ghnf.Form(m)
				proof.Taken(t, what, got, e, form)
			}
		}
	}
}

func TestKnownForms(t *testing.T) { // P10.1, P10.3: of matrices made of one in Hermite form
	d := proof.Dice(1)
	for _, k := range modules(&d) {
		what := " of " + proof.Told(k.m)
		for _, m := range []api.M{k.m, k.form, proof.Longer(k.m), proof.Longer(k.form)} {
			form, e := ghnf.Form(m)
			proof.Taken(t, "Form"+what, form, e, k.form)
			pivots, e := ghnf.Pivots(m)
			proof.Taken(t, "Pivots"+what, pivots, e, k.pivots)
			index, e := ghnf.Index(m)
			if len(m) > 0 && len(k.form) < k.width {
				proof.Refused(t, "Index"+what, index, e, api.ErrNone)
			} else {
				proof.Taken(t, "Index"+what, index, e, k.index())
			}
		}
	}
}

// index tells the norms of all pivots, multiplied.
func (k known) index() api.Z {
	index := proof.Z(1)
	for i, c := range k.pivots {
		index = zint.Mul(index, gint.Norm(k.form[i][c]))
	}
	return index
}

func TestSame(t *testing.T) { // P10.1
	d, ends := proof.Dice(2), map[bool]int{}
	for width := 1; width <= 3; width++ {
		var list []known
		for range 20 {
			list = append(list, drawn(&d, d.Next(width+1), width, 1, func() api.G { return proof.Whole(d.Small(1)) }))
		}
		for _, a := range list {
			for _, b := range list {
				want := proof.Alike(a.form, b.form)
				ends[want]++
				for _, pair := range [][2]api.M{{a.m, b.m}, {a.form, b.m}, {a.m, proof.Longer(b.form)}} {
					got, e := ghnf.Same(pair[0], pair[1])
					proof.Taken(t, fmt.Sprint("Same of ", proof.Told(a.m), " and ", proof.Told(b.m)), got, e, want)
				}
			}
		}
	}
	if ends[true] < 100 || ends[false] < 100 {
		t.Errorf("how often it ends so: %v", ends)
	}
}

func TestIndexCounts(t *testing.T) { // P10.3: so many rests there are
	d := proof.Dice(3)
	for k := range 40 {
		width := 1 + k%2
		m := proof.Fresh(drawn(&d, width, width, 1, func() api.G { return proof.Whole(d.Small(2)) }).m)
		rests := map[string]bool{}
		for _, v := range proof.Lists(proof.Square(2), width) {
			var numbers []complex128
			for _, x := range v {
				numbers = append(numbers, x.(complex128))
			}
			rests[proof.Show(proof.Must[[]api.G](t)(ghnf.Rest(m, proof.Vector(numbers...))))] = true
		}
		got, e := ghnf.Index(m)
		proof.Taken(t, "Index of "+proof.Told(m), got, e, proof.Z(int64(len(rests))))
	}
}
