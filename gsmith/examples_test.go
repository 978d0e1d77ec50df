package gsmith_test

import (
	"testing"

	"tessel/api"
	"tessel/gsmith"
	"tessel/proof"
)

func TestExamples(t *testing.T) { // the chapter's table
	for _, c := range []struct {
		m    rows
		want []complex128
	}{
		{rows{{2, 0}, {0, 3}}, []complex128{1, 6}}, {rows{{2, 4}, {6, 8}}, []complex128{2, 4}}, {rows{{0}}, nil}, {nil, nil}, {rows{{1 + 1i, 0}, {0, 2}}, []complex128{1 + 1i, 2}},
	} {
		list, e := gsmith.Factors(c.m.Whole())
		proof.Taken(t, "Factors of "+proof.Told(c.m.Whole()), list, e, proof.Vector(c.want...))
	}
	last, e := gsmith.Exponent(rows{{2, 0}, {0, 3}}.Whole())
	proof.Taken(t, "Exponent({{2, 0}, {0, 3}})", last, e, g(6, 0))
	last, e = gsmith.Exponent(rows{{1, 2}}.Whole())
	proof.Refused(t, "Exponent({{1, 2}})", last, e, api.ErrNone)
	last, e = gsmith.Exponent(nil)
	proof.Taken(t, "Exponent(none)", last, e, g(1, 0))
}
