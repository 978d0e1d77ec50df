package gdet_test

import (
	"fmt"
	"testing"

	"tessel/api"
	"tessel/gdet"
	"tessel/proof"
)

// holds tells where a call of a matrix is not what the machine's numbers tell, whatever the form.
func holds[V any](t *testing.T, name string, play func(m api.M) (V, api.Errno), want func(a rows) V, lists ...[]rows) {
	t.Helper()
	for _, list := range lists {
		for _, a := range list {
			wanted := want(a)
			for _, m := range a.Forms() {
				got, e := play(m)
				proof.Taken(t, fmt.Sprint(name, " ", a), got, e, wanted)
			}
		}
	}
}

func TestDet(t *testing.T) { // P9.1
	holds(t, "Det", gdet.Det, func(a rows) api.G { return proof.Whole(a.Det()) }, proof.Squares(), proof.Tiny(), proof.Flags())
}

func TestRank(t *testing.T) { // P9.1
	holds(t, "Rank", gdet.Rank, rows.Rank, proof.Samples(), proof.Squares(), proof.Flags())
	holds(t, "Independent", gdet.Independent, func(a rows) bool { return a.Rank() == len(a) }, proof.Samples(), proof.Squares(), proof.Flags())
}

func TestMinors(t *testing.T) { // P9.2
	holds(t, "Minors", gdet.Minors, minors, proof.Samples(), proof.Squares(), proof.Tiny())
}

func TestAdjugate(t *testing.T) { // P9.3
	holds(t, "Adjugate", gdet.Adjugate, func(a rows) api.M { return adjugate(a).Whole() }, proof.Squares(), proof.Tiny(), proof.Flags())
}

func TestInverse(t *testing.T) { // P9.3
	d, taken := proof.Dice(3), 0
	list := append(proof.Tiny(), proof.Squares()...)
	for k := range 60 {
		list = append(list, d.Unimodular(1+k%5))
	}
	for _, a := range list {
		unit := a.Det()
		for _, m := range a.Forms() {
			got, e := gdet.Inverse(m)
			what := fmt.Sprint("Inverse ", a)
			if proof.Norm(unit) != 1 {
				proof.Refused(t, what, got, e, api.ErrNone)
				continue
			}
			taken++
			proof.Taken(t, what, got, e, adjugate(a).Scaled(proof.Conj(unit)).Whole())
		}
	}
	if taken < 3*60 {
		t.Errorf("only %d have an inverse", taken)
	}
}

func TestNotSquare(t *testing.T) { // P9.1, P9.3
	for _, a := range proof.Samples() {
		if len(a) == a.Width() {
			continue
		}
		proof.CheckRefused(t, squaresOnly(), proof.All(a.Whole()), api.ErrShape)
	}
	wide := proof.Made(api.MaxSize-1, api.MaxSize, func(i, j int) complex128 { return 1 })
	proof.CheckRefused(t, squaresOnly(), proof.All(wide.Whole()), api.ErrShape)
	proof.CheckRefused(t, squaresOnly(), proof.All(wide.Turned().Whole()), api.ErrShape)
}

func TestNotGood(t *testing.T) { // all calls
	for _, m := range proof.Crooked() {
		proof.CheckRefused(t, append(squaresOnly(), ofAll()...), proof.All(m), api.ErrShape)
		for _, v := range [][]api.G{nil, m[0], m[len(m)-1], make([]api.G, api.MaxSize), make([]api.G, api.MaxSize+1)} {
			proof.CheckRefused(t, ofVector(), proof.All(m, v), api.ErrShape)
		}
	}
}

func TestEmpty(t *testing.T) { // P9.1 to P9.3: no rows, and rows without columns
	for _, m := range []api.M{nil, {}} {
		det, e := gdet.Det(m)
		proof.Taken(t, "Det of no rows", det, e, g(1, 0))
		rank, e := gdet.Rank(m)
		proof.Taken(t, "Rank of no rows", rank, e, 0)
		all, e := gdet.Independent(m)
		proof.Taken(t, "Independent of no rows", all, e, true)
		list, e := gdet.Minors(m)
		proof.Taken(t, "Minors of no rows", list, e, []api.Z{proof.Z(1)})
		adjugate, e := gdet.Adjugate(m)
		proof.Taken(t, "Adjugate of no rows", adjugate, e, nil)
		inverse, e := gdet.Inverse(m)
		proof.Taken(t, "Inverse of no rows", inverse, e, nil)
	}
	for height := 1; height <= api.MaxSize; height++ {
		m, what := make(api.M, height), fmt.Sprint(" of ", height, " rows without columns")
		proof.CheckRefused(t, squaresOnly(), proof.All(m), api.ErrShape)
		rank, e := gdet.Rank(m)
		proof.Taken(t, "Rank"+what, rank, e, 0)
		all, e := gdet.Independent(m)
		proof.Taken(t, "Independent"+what, all, e, false)
		list, e := gdet.Minors(m)
		proof.Taken(t, "Minors"+what, list, e, append([]api.Z{proof.Z(1)}, make([]api.Z, height)...))
		got, e := gdet.Solve(m, nil)
		proof.Refused(t, "Solve"+what, got, e, api.ErrDependent)
		got, e = gdet.Solve(m, proof.Vector(0))
		proof.Refused(t, "Solve"+what, got, e, api.ErrShape)
	}
}

// squaresOnly are the calls that take matrices with as many rows as columns alone, ofAll are those of any.
func squaresOnly() []proof.Call {
	return []proof.Call{
		proof.One("Det", func(m api.M) []any { return proof.All(gdet.Det(m)) }),
		proof.One("Adjugate", func(m api.M) []any { return proof.All(gdet.Adjugate(m)) }),
		proof.One("Inverse", func(m api.M) []any { return proof.All(gdet.Inverse(m)) }),
	}
}

func ofAll() []proof.Call {
	return []proof.Call{
		proof.One("Rank", func(m api.M) []any { return proof.All(gdet.Rank(m)) }),
		proof.One("Independent", func(m api.M) []any { return proof.All(gdet.Independent(m)) }),
		proof.One("Minors", func(m api.M) []any { return proof.All(gdet.Minors(m)) }),
	}
}
