package ghnf_test

import (
	"testing"

	"tessel/api"
	"tessel/ghnf"
	"tessel/proof"
)

func TestExamples(t *testing.T) { // the chapter's table
	for _, c := range []struct{ m, form rows }{
		{rows{{2, 1}, {0, 3}}, rows{{2, 1}, {0, 3}}}, {rows{{0, 0}}, nil}, {rows{{1i, 2}, {1, 1}}, rows{{1, 1}, {0, 1 + 2i}}},
		{rows{{4}, {6i}}, rows{{2}}}, {rows{{1 + 1i}, {3}}, rows{{1}}}, {rows{{3, 5}, {0, 2}}, rows{{3, -1}, {0, 2}}},
	} {
		form, e := ghnf.Form(c.m.Whole())
		proof.Taken(t, "Form of "+proof.Told(c.m.Whole()), form, e, c.form.Whole())
	}
	pivots, e := ghnf.Pivots(rows{{0, 0, 7}, {0, 0, 3}}.Whole())
	proof.Taken(t, "Pivots({{0, 0, 7}, {0, 0, 3}})", pivots, e, []int{2})
	is, e := ghnf.Same(rows{{1, 1}}.Whole(), rows{{-1i, -1i}}.Whole())
	proof.Taken(t, "Same({{1, 1}}, {{-i, -i}})", is, e, true)
	is, e = ghnf.Same(nil, rows{{0}}.Whole())
	proof.Taken(t, "Same(none, {{0}})", is, e, true)
	is, e = ghnf.Same(rows{{1}}.Whole(), rows{{1, 2}}.Whole())
	proof.Refused(t, "Same({{1}}, {{1, 2}})", is, e, api.ErrShape)
	x, e := ghnf.Member(rows{{2, 0}, {0, 2}}.Whole(), proof.Vector(4, -2i))
	proof.Taken(t, "Member({{2, 0}, {0, 2}}, {4, -2i})", x, e, proof.Vector(2, -1i))
	x, e = ghnf.Member(rows{{2}}.Whole(), proof.Vector(3))
	proof.Refused(t, "Member({{2}}, {3})", x, e, api.ErrNone)
	x, e = ghnf.Member(nil, proof.Vector(0, 0))
	proof.Taken(t, "Member(none, {0, 0})", x, e, nil)
	rest, e := ghnf.Rest(rows{{2}}.Whole(), proof.Vector(7+3i))
	proof.Taken(t, "Rest({{2}}, {7+3i})", rest, e, proof.Vector(-1-1i))
	rest, e = ghnf.Rest(rows{{0, 3}}.Whole(), proof.Vector(5, 4))
	proof.Taken(t, "Rest({{0, 3}}, {5, 4})", rest, e, proof.Vector(5, 1))
	index, e := ghnf.Index(rows{{2, 1}, {0, 3}}.Whole())
	proof.Taken(t, "Index({{2, 1}, {0, 3}})", index, e, proof.Z(36))
	index, e = ghnf.Index(rows{{1, 2}}.Whole())
	proof.Refused(t, "Index({{1, 2}})", index, e, api.ErrNone)
}
