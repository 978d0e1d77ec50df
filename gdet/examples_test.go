package gdet_test

import (
	"testing"

	"tessel/api"
	"tessel/gdet"
	"tessel/proof"
)

func TestExamples(t *testing.T) { // the chapter's table
	a := rows{{1, 2}, {1i, 0}}.Whole()
	twin := rows{{1, 1i}, {1i, -1}}.Whole()
	det, e := gdet.Det(a)
	proof.Taken(t, "Det(A)", det, e, g(0, -2))
	det, e = gdet.Det(nil)
	proof.Taken(t, "Det(none)", det, e, g(1, 0))
	det, e = gdet.Det(rows{{1, 2}}.Whole())
	proof.Refused(t, "Det({{1, 2}})", det, e, api.ErrShape)
	rank, e := gdet.Rank(twin)
	proof.Taken(t, "Rank({{1, i}, {i, -1}})", rank, e, 1)
	rank, e = gdet.Rank(nil)
	proof.Taken(t, "Rank(none)", rank, e, 0)
	list, e := gdet.Minors(a)
	proof.Taken(t, "Minors(A)", list, e, []api.Z{proof.Z(1), proof.Z(5), proof.Z(4)})
	list, e = gdet.Minors(twin)
	proof.Taken(t, "Minors({{1, i}, {i, -1}})", list, e, []api.Z{proof.Z(1), proof.Z(2), proof.Z(0)})
	list, e = gdet.Minors(nil)
	proof.Taken(t, "Minors(none)", list, e, []api.Z{proof.Z(1)})
	m, e := gdet.Adjugate(a)
	proof.Taken(t, "Adjugate(A)", m, e, rows{{0, -2}, {-1i, 1}}.Whole())
	m, e = gdet.Inverse(a)
	proof.Refused(t, "Inverse(A)", m, e, api.ErrNone)
	m, e = gdet.Inverse(rows{{1, 1}, {0, 1i}}.Whole())
	proof.Taken(t, "Inverse({{1, 1}, {0, i}})", m, e, rows{{1, 1i}, {0, -1i}}.Whole())
	x, e := gdet.Solve(a, proof.Vector(1, 1))
	proof.Taken(t, "Solve(A, {1, 1})", x, e, []api.C{{Re: proof.Q(1, 2), Im: proof.Q(0, 1)}, {Re: proof.Q(0, 1), Im: proof.Q(-1, 2)}})
	x, e = gdet.Solve(rows{{1, 1}}.Whole(), proof.Vector(1, 2))
	proof.Refused(t, "Solve({{1, 1}}, {1, 2})", x, e, api.ErrNone)
	x, e = gdet.Solve(rows{{1}, {1}}.Whole(), proof.Vector(1))
	proof.Refused(t, "Solve({{1}, {1}}, {1})", x, e, api.ErrDependent)
}
