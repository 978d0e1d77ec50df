package gdet_test

import (
	"fmt"
	"testing"

	"tessel/api"
	"tessel/gdet"
	"tessel/proof"
)

// holds tells where a call of a matrix is not what the machine's numbers tell, whatever the form.
func holds[V any](t *testing.T, name string, play func(m api.M) (V, api.Errno), want func(a rows) V, lists ...[]rows) {
	t.Helper()
	for _, list := range lists {
		for _, a := range list {
			wanted := want(a)
			for _, m := range a.Forms() {
				got, e := play(m)
				proof.Taken(t, fmt.Sprint(name, " ", a), got, e, wanted)
			}
		}
	}
}

func TestDet(t *testing.T) { // P9.1
	holds(t, "Det", gdet.Det, func(a rows) api.G { return proof.Whole(det(a)) }, squares(), tiny(), flags())
}

func TestRank(t *testing.T) { // P9.1
	holds(t, "Rank", gdet.Rank, rank, samples(), squares(), flags())
	holds(t, "Independent", gdet.Independent, func(a rows) bool { return rank(a) == len(a) }, samples(), squares(), flags())
}

func TestMinors(t *testing.T) { // P9.2
	holds(t, "Minors", gdet.Minors, minors, samples(), squares(), tiny())
}

func TestAdjugate(t *testing.T) { // P9.3
	holds(t, "Adjugate", gdet.Adjugate, func(a rows) api.M { return adjugate(a).Whole() }, squares(), tiny(), flags())
}

func TestInverse(t *testing.T) { // P9.3
	d, taken := proof.Dice(3), 0
	list := append(tiny(), squares()...)
	for k := range 60 {
		list = append(list, unimodular(&d, 1+k%5))
	}
	for _, a := range list {
		unit := det(a)
		for _, m := range a.Forms() {
			got, e := gdet.Inverse(m)
			what := fmt.Sprint("Inverse ", a)
			if proof.Norm(unit) != 1 {
				proof.Refused(t, what, got, e, api.ErrNone)
				continue
			}
			taken++
			proof.Taken(t, what, got, e, adjugate(a).Scaled(proof.Conj(unit)).Whole())
		}
	}
	if taken < 3*60 {
		t.Errorf("only %d have an inverse", taken)
	}
}

func TestNotSquare(t *testing.T) { // P9.1, P9.3
	for _, a := range samples() {
		if len(a) == a.Width() {
			continue
		}
		refused(t, fmt.Sprint(" of ", a), a.Whole(), api.ErrShape, squaresOnly()...)
	}
	wide := proof.Made(api.MaxSize-1, api.MaxSize, func(i, j int) complex128 { return 1 })
	refused(t, " of a wide one", wide.Whole(), api.ErrShape, squaresOnly()...)
	refused(t, " of a high one", wide.Turned().Whole(), api.ErrShape, squaresOnly()...)
}

func TestNotGood(t *testing.T) { // all calls
	for _, m := range proof.Crooked() {
		what := fmt.Sprint(" of ", len(m), " rows that are not good")
		refused(t, what, m, api.ErrShape, append(squaresOnly(), ofAll()...)...)
		for _, v := range [][]api.G{nil, m[0], m[len(m)-1], make([]api.G, api.MaxSize), make([]api.G, api.MaxSize+1)} {
			got, e := gdet.Solve(m, v)
			proof.Refused(t, "Solve"+what, got, e, api.ErrShape)
		}
	}
}

func TestEmpty(t *testing.T) { // P9.1 to P9.3: no rows, and rows without columns
	for _, m := range []api.M{nil, {}} {
		det, e := gdet.Det(m)
		proof.Taken(t, "Det of no rows", det, e, g(1, 0))
		rank, e := gdet.Rank(m)
		proof.Taken(t, "Rank of no rows", rank, e, 0)
		all, e := gdet.Independent(m)
		proof.Taken(t, "Independent of no rows", all, e, true)
		list, e := gdet.Minors(m)
		proof.Taken(t, "Minors of no rows", list, e, []api.Z{proof.Z(1)})
		adjugate, e := gdet.Adjugate(m)
		proof.Taken(t, "Adjugate of no rows", adjugate, e, nil)
		inverse, e := gdet.Inverse(m)
		proof.Taken(t, "Inverse of no rows", inverse, e, nil)
	}
	for height := 1; height <= api.MaxSize; height++ {
		m, what := make(api.M, height), fmt.Sprint(" of ", height, " rows without columns")
		refused(t, what, m, api.ErrShape, squaresOnly()...)
		rank, e := gdet.Rank(m)
		proof.Taken(t, "Rank"+what, rank, e, 0)
		all, e := gdet.Independent(m)
		proof.Taken(t, "Independent"+what, all, e, false)
		list, e := gdet.Minors(m)
		proof.Taken(t, "Minors"+what, list, e, append([]api.Z{proof.Z(1)}, make([]api.Z, height)...))
		got, e := gdet.Solve(m, nil)
		proof.Refused(t, "Solve"+what, got, e, api.ErrDependent)
		got, e = gdet.Solve(m, proof.Vector(0))
		proof.Refused(t, "Solve"+what, got, e, api.ErrShape)
	}
}

// call is one of a matrix, by its name.
type call struct {
	name string
	play func(m api.M) (any, api.Errno)
}

func named[V any](name string, play func(m api.M) (V, api.Errno)) call {
	return call{name, func(m api.M) (any, api.Errno) { return play(m) }}
}

// squaresOnly are the calls that take matrices with as many rows as columns alone, ofAll are those of any.
func squaresOnly() []call {
	return []call{named("Det", gdet.Det), named("Adjugate", gdet.Adjugate), named("Inverse", gdet.Inverse)}
}

func ofAll() []call {
	return []call{named("Rank", gdet.Rank), named("Independent", gdet.Independent), named("Minors", gdet.Minors)}
}

func refused(t *testing.T, what string, m api.M, want api.Errno, calls ...call) {
	t.Helper()
	for _, c := range calls {
		got, e := c.play(m)
		proof.Refused(t, c.name+what, got, e, want)
	}
}
