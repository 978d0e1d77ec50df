package ghnf_test

import (
	"fmt"
	"testing"

	"tessel/api"
	"tessel/ghnf"
	"tessel/gint"
	"tessel/proof"
)

const most = api.MaxSize

func TestMostRows(t *testing.T) { // P10.1, P10.2: of as many rows or columns as there may be
	d := proof.Dice(12)
	one := func() api.G { return proof.Whole(d.Small(1)) }
	for _, size := range [][3]int{{most, most, 0}, {most - 1, most, 1}, {5, most, most - 5}, {5, 5, most - 5}, {1, 1, most - 1}, {0, most, most}} {
		k := drawn(&d, size[0], size[1], size[2], one)
		what := fmt.Sprint(" of ", size[0]+size[2], " rows of the rank ", size[0], " and ", size[1], " columns")
		form, e := ghnf.Form(k.m)
		proof.Taken(t, "Form"+what, form, e, k.form)
		pivots, e := ghnf.Pivots(k.m)
		proof.Taken(t, "Pivots"+what, pivots, e, k.pivots)
		lifts(t, k.m, k.combined(k.vector()[:size[0]]))
	}
}

func TestMostOfPowers(t *testing.T) { // P10.1: pivots that divide one another from row to row: those of which all are divided by the last one
	m := make(api.M, most)
	for i := range m {
		m[i] = make([]api.G, most)
		for j := range m[i][:i+1] {
			m[i][j] = api.G{Re: proof.Power2(i)}
		}
	}
	form, e := ghnf.Form(m)
	if e != api.OK || len(form) != most {
		t.Fatalf("Form: %d rows, error %d", len(form), e)
	}
	for i, row := range form {
		for j, x := range row {
			want := api.G{}
			if i == j {
				want.Re = proof.Power2(i)
			}
			if !gint.Equal(x, want) {
				t.Errorf("Form: %s at %d, %d", gint.Text(x), i, j)
			}
		}
	}
}
