package ghnf_test

import (
	"fmt"
	"testing"

	"tessel/api"
	"tessel/ghnf"
	"tessel/gres"
	"tessel/proof"
)

// lifts tells where Lift doesn't tell what makes a vector of a matrix's rows.
func lifts(t *testing.T, m api.M, v []api.G) {
	t.Helper()
	y, e := ghnf.Lift(m, v)
	what := fmt.Sprint("Lift of ", proof.Told(m), " and ", proof.Told(api.M{v}))
	if e != api.OK || len(y) != len(m) || !proof.Alike(y, proof.Canon(y)) {
		t.Errorf("%s: %v, error %d", what, y, e)
		return
	}
	proof.Is(t, what+": what it makes", sum(make([]api.G, len(v)), y, m), proof.Canon(v))
}

func TestMember(t *testing.T) { // P10.2: of known forms
	d := proof.Dice(4)
	for _, k := range modules(&d) {
		x := proof.Canon(k.vector()[:len(k.form)])
		for _, v := range [][]api.G{k.combined(x), proof.Longer(k.combined(x))} {
			got, e := ghnf.Member(k.m, v)
			proof.Taken(t, fmt.Sprint("Member of ", proof.Told(k.m), " and ", proof.Told(api.M{v})), got, e, x)
			lifts(t, k.m, v)
		}
		for _, row := range k.m {
			lifts(t, k.m, row)
		}
	}
}

func TestRest(t *testing.T) { // P10.2: what is no member is its rest and a member
	d := proof.Dice(5)
	for _, k := range modules(&d) {
		rest := proof.Canon(k.vector())
		for i, c := range k.pivots {
			rest[c], _ = gres.Reduce(rest[c], k.form[i][c])
		}
		v := sum(rest, k.vector(), k.form)
		what := fmt.Sprint(" of ", proof.Told(k.m), " and ", proof.Told(api.M{v}))
		for _, m := range []api.M{k.m, k.form, proof.Longer(k.m)} {
			for _, v := range [][]api.G{v, rest, proof.Longer(v)} {
				got, e := ghnf.Rest(m, v)
				proof.Taken(t, "Rest"+what, got, e, rest)
			}
			if !proof.Alike(rest, make([]api.G, k.width)) {
				proof.CheckRefused(t, ofMembers(), proof.All(m, v), api.ErrNone)
			}
		}
	}
}

func TestMembersOfSmall(t *testing.T) { // P10.2: as determinants tell
	d, ends := proof.Dice(6), map[bool]int{}
	for _, a := range append(proof.Samples(), proof.Flags()...) {
		for _, v := range d.Rows(6, a.Width(), 2) {
			if len(a) == 0 {
				break
			}
			is := a.Contains(rows{v})
			ends[is]++
			if is {
				lifts(t, a.Whole(), proof.Vector(v...))
			} else {
				proof.CheckRefused(t, ofMembers(), proof.All(a.Whole(), proof.Vector(v...)), api.ErrNone)
			}
		}
	}
	if ends[true] < 100 || ends[false] < 100 {
		t.Errorf("how often it ends so: %v", ends)
	}
}

func TestSquareOfRests(t *testing.T) { // P10.2: the square's sides: the lower and the left one belong to it, those across do not
	for _, c := range []struct{ pivot, v, want complex128 }{
		{2, 1, -1}, {2, 1i, -1i}, {2, 1 + 1i, -1 - 1i}, {2, -1 - 1i, -1 - 1i}, {2, 7 + 3i, -1 - 1i}, {1 + 1i, 1, -1i}, {1 + 1i, 5, -1i}, {-2, 1, -1}, {2i, 1, -1}, {4, 2 + 1i, -2 + 1i},
	} {
		got, e := ghnf.Rest(rows{{0, c.pivot}}.Whole(), proof.Vector(9i, c.v))
		proof.Taken(t, fmt.Sprint("Rest of ", c.v, " by ", c.pivot), got, e, proof.Vector(9i, c.want))
		form, e := ghnf.Form(rows{{0, c.pivot}, {1i, c.v}}.Whole())
		want := proof.Residue(-1i*c.v, proof.Associate(c.pivot))
		proof.Taken(t, fmt.Sprint("Form of ", c.v, " above ", c.pivot), form, e, rows{{1, want}, {0, proof.Associate(c.pivot)}}.Whole())
	}
}

func TestNoRows(t *testing.T) { // P10.2: of no rows 0 alone is a member, of any width
	for _, m := range []api.M{nil, {}} {
		for _, n := range []int{0, 1, 2, api.MaxSize, api.MaxSize + 1, 1000} {
			for _, nought := range proof.GNoughts() {
				v := make([]api.G, n)
				for j := range v {
					v[j] = nought
				}
				what := fmt.Sprint(" of no rows and ", n, " noughts")
				got, e := ghnf.Member(m, v)
				proof.Taken(t, "Member"+what, got, e, nil)
				got, e = ghnf.Lift(m, v)
				proof.Taken(t, "Lift"+what, got, e, nil)
				got, e = ghnf.Rest(m, v)
				proof.Taken(t, "Rest"+what, got, e, make([]api.G, n))
			}
			for _, place := range []int{0, n / 2, n - 1} {
				if n == 0 {
					break
				}
				v := make([]api.G, n)
				v[place] = g(0, -1)
				proof.CheckRefused(t, ofMembers(), proof.All(m, v), api.ErrNone)
				got, e := ghnf.Rest(m, v)
				proof.Taken(t, fmt.Sprint("Rest of no rows and ", n, " numbers"), got, e, v)
			}
		}
	}
}

func TestLiftOfDependent(t *testing.T) { // P10.2: also of rows that are 0, and of rows without columns
	for height := 2; height <= 5; height++ {
		lifts(t, make(api.M, height), nil)
		m := proof.Made(height, 2, func(i, j int) complex128 { return 0 }).Whole()
		lifts(t, m, proof.Vector(0, 0))
		proof.CheckRefused(t, ofMembers(), proof.All(m, proof.Vector(0, 1)), api.ErrNone)
		m[height-1] = proof.Vector(0, 2i)
		lifts(t, m, proof.Vector(0, 6))
		m[0] = proof.Vector(0, 3)
		lifts(t, m, proof.Vector(0, 1))
		proof.CheckRefused(t, ofMembers(), proof.All(m, proof.Vector(1, 1)), api.ErrNone)
	}
}
