package gmat_test

import (
	"fmt"
	"testing"

	"tessel/api"
	"tessel/gmat"
	"tessel/proof"
	"tessel/zint"
)

// vectorForms are those in which a vector may be handed in.
func vectorForms(v []complex128) [][]api.G {
	return [][]api.G{proof.Vector(v...), proof.Longer(proof.Vector(v...))}
}

func TestTimes(t *testing.T) { // P8.3
	list := samples()
	for _, v := range vectors() {
		for _, a := range list {
			for k, whole := range vectorForms(v) {
				m := a.forms[k+1]
				got, e := gmat.Times(whole, m)
				what := fmt.Sprintf("Times(%v, %s)", v, show(m))
				if len(v) != len(a.rows) {
					proof.Refused(t, what, got, e, api.ErrShape)
					continue
				}
				want := proof.Vector()
				if len(a.rows) > 0 {
					want = rows{v}.Times(a.rows).Whole()[0]
				}
				proof.Taken(t, what, got, e, want)
			}
		}
	}
}

func TestDot(t *testing.T) { // P8.3: vectors of any length
	for _, u := range vectors() {
		for _, v := range vectors() {
			for k, whole := range vectorForms(u) {
				got, e := gmat.Dot(whole, vectorForms(v)[1-k])
				what := fmt.Sprintf("Dot(%v, %v)", u, v)
				if len(u) != len(v) {
					proof.Refused(t, what, got, e, api.ErrShape)
				} else {
					proof.Taken(t, what, got, e, proof.Whole(proof.Dot(u, v)))
				}
			}
		}
	}
}

func TestDotIsConjugated(t *testing.T) { // P8.3: the second one is, not the first one
	for _, c := range []struct{ x, y, want complex128 }{{1, 1i, -1i}, {1i, 1, 1i}, {1i, 1i, 1}, {2 + 1i, 1i, 1 - 2i}, {3, 2, 6}, {1i, -1i, -1}} {
		got, e := gmat.Dot(proof.Vector(c.x), proof.Vector(c.y))
		proof.Taken(t, fmt.Sprintf("Dot(%v, %v)", c.x, c.y), got, e, proof.Whole(c.want))
	}
}

func TestLength(t *testing.T) { // P8.3
	for _, v := range vectors() {
		want := 0.0
		for _, x := range v {
			want += proof.Norm(x)
		}
		for _, whole := range vectorForms(v) {
			proof.Is(t, fmt.Sprintf("Length(%v)", v), gmat.Length(whole), proof.Z(int64(want)))
		}
	}
}

func TestVectorsOfLong(t *testing.T) { // P8.3: held against zint, part by part; P8.5: Length(v) is Dot(v, v)
	d := proof.Dice(6)
	for range 200 {
		n := d.Next(6)
		u, v, m := d.Vector(n, 8), d.Vector(n, 7), d.M(n, 3, 6)
		got, e := gmat.Dot(u, v)
		proof.Taken(t, "Dot", got, e, dotOf(u, v))
		long := gmat.Length(u)
		proof.Is(t, "Length", api.G{Re: long}, dotOf(u, u))
		got, e = gmat.Dot(u, u)
		proof.Taken(t, "Dot with itself", got, e, api.G{Re: long})
		want := make([]api.G, 3)
		for i, row := range m {
			for j, x := range row {
				want[j] = sum(want[j], times(u[i], x))
			}
		}
		all, e := gmat.Times(u, m)
		proof.Taken(t, "Times", all, e, want[:3*min(1, n)])
	}
}

func TestEqual(t *testing.T) { // P8.3
	list := samples()
	for i, a := range list {
		for j, b := range list {
			for k, m := range a.forms {
				if got := gmat.Equal(m, b.forms[2-k]); got != (i == j) {
					t.Errorf("Equal(%s, %s): %v", show(m), show(b.forms[2-k]), got)
				}
			}
		}
	}
}

func TestEqualElsewhere(t *testing.T) { // P8.3: one part of one number makes two matrices two
	for _, a := range append(smalls(), limits()...) {
		for _, i := range places(a) {
			for _, j := range places(a.Turned()) {
				for _, off := range []complex128{1, -1, 1i, -1i} {
					b := a.Copied()
					b[i][j] += off
					if gmat.Equal(a.Whole(), b.Whole()) || gmat.Equal(b.Whole(), a.Whole()) {
						t.Errorf("Equal(%s, %s): true", show(a.Whole()), show(b.Whole()))
					}
				}
			}
		}
	}
	long := api.M{{{Re: proof.Power2(200), Im: proof.Z(-1)}}}
	if near := (api.M{{{Re: zint.Add(proof.Power2(200), proof.Power2(96)), Im: proof.Z(-1)}}}); gmat.Equal(long, near) || !gmat.Equal(long, proof.Longer(long)) {
		t.Error("Equal of long numbers")
	}
}

func TestEqualOfCrooked(t *testing.T) { // P8.3: what is not good is equal to nothing, not to itself either
	for _, m := range proof.Crooked() {
		for _, other := range append(others(m), m) {
			if gmat.Equal(m, other) || gmat.Equal(other, m) {
				t.Errorf("Equal(%s, %s): true", show(m), show(other))
			}
		}
	}
}
