package ghnf_test

import (
	"fmt"
	"testing"

	"tessel/api"
	"tessel/ghnf"
	"tessel/proof"
)

func TestNotGood(t *testing.T) { // all calls
	for _, m := range proof.Crooked() {
		proof.CheckRefused(t, ofOne(), proof.All(m), api.ErrShape)
		for _, v := range [][]api.G{nil, m[0], m[len(m)-1], make([]api.G, api.MaxSize), make([]api.G, api.MaxSize+1)} {
			proof.CheckRefused(t, ofVector(), proof.All(m, v), api.ErrShape)
		}
		for _, other := range []api.M{nil, {{}}, {m[0]}, m} {
			proof.CheckRefused(t, ofTwo(), proof.All(m, other), api.ErrShape)
			proof.CheckRefused(t, ofTwo(), proof.All(other, m), api.ErrShape)
		}
	}
}

func TestOtherWidths(t *testing.T) { // all calls: ahead of what is no member
	d := proof.Dice(7)
	for width := range 5 {
		m := d.M(1+d.Next(3), width, 1)
		for other := range 7 {
			if other == width {
				continue
			}
			for _, v := range [][]api.G{make([]api.G, other), d.Vector(other, 1)} {
				proof.CheckRefused(t, ofVector(), proof.All(m, v), api.ErrShape)
				proof.CheckRefused(t, ofTwo(), proof.All(m, api.M{v}), api.ErrShape)
				proof.CheckRefused(t, ofTwo(), proof.All(api.M{v, v}, m), api.ErrShape)
			}
		}
	}
}

func TestEmpty(t *testing.T) { // all calls: no rows, and rows without columns
	for height := 0; height <= api.MaxSize; height++ {
		m, what := make(api.M, height), fmt.Sprint(" of ", height, " rows without columns")
		form, e := ghnf.Form(m)
		proof.Taken(t, "Form"+what, form, e, nil)
		pivots, e := ghnf.Pivots(m)
		proof.Taken(t, "Pivots"+what, pivots, e, nil)
		index, e := ghnf.Index(m)
		proof.Taken(t, "Index"+what, index, e, proof.Z(1))
		x, e := ghnf.Member(m, nil)
		proof.Taken(t, "Member"+what, x, e, nil)
		rest, e := ghnf.Rest(m, nil)
		proof.Taken(t, "Rest"+what, rest, e, nil)
		lifts(t, m, nil)
	}
}

func TestSameOfNoRows(t *testing.T) { // P10.1: the module of 0 alone, of any width
	for _, none := range []api.M{nil, {}} {
		for _, m := range []api.M{nil, {{}}, make(api.M, api.MaxSize), rows{{0}}.Whole(), rows{{0, 0}, {0, 0}}.Whole(), proof.Made(1, api.MaxSize, func(i, j int) complex128 { return 0 }).Whole()} {
			is, e := ghnf.Same(none, m)
			proof.Taken(t, "Same of no rows and noughts", is, e, true)
			is, e = ghnf.Same(m, none)
			proof.Taken(t, "Same of noughts and no rows", is, e, true)
		}
		for _, m := range []rows{{{1}}, {{0, 0}, {0, 1i}}} {
			is, e := ghnf.Same(none, m.Whole())
			proof.Taken(t, fmt.Sprint("Same of no rows and ", m), is, e, false)
			is, e = ghnf.Same(m.Whole(), none)
			proof.Taken(t, fmt.Sprint("Same of ", m, " and no rows"), is, e, false)
		}
	}
}
