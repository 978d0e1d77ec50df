package gmod_test

import (
	"testing"

	"tessel/api"
	"tessel/gmod"
	"tessel/proof"
)

func TestExamples(t *testing.T) { // the chapter's table
	made, e := gmod.Sum(rows{{4}}.Whole(), rows{{6}}.Whole())
	proof.Taken(t, "Sum({{4}}, {{6}})", made, e, rows{{2}}.Whole())
	made, e = gmod.Meet(rows{{4}}.Whole(), rows{{6}}.Whole())
	proof.Taken(t, "Meet({{4}}, {{6}})", made, e, rows{{12}}.Whole())
	is, e := gmod.Contains(rows{{2}}.Whole(), rows{{4}}.Whole())
	proof.Taken(t, "Contains({{2}}, {{4}})", is, e, true)
	made, e = gmod.Scale(rows{{2, 1}}.Whole(), g(0, 1))
	proof.Taken(t, "Scale({{2, 1}}, i)", made, e, rows{{2, 1}}.Whole())
	made, e = gmod.Image(rows{{1, 1}}.Whole(), rows{{2}, {1i}}.Whole())
	proof.Taken(t, "Image({{1, 1}}, {{2}, {i}})", made, e, rows{{2 + 1i}}.Whole())
	made, e = gmod.Kernel(rows{{1}, {2}}.Whole())
	proof.Taken(t, "Kernel({{1}, {2}})", made, e, rows{{2, -1}}.Whole())
	made, e = gmod.Kernel(rows{{1, 0}, {0, 1}}.Whole())
	proof.Taken(t, "Kernel({{1, 0}, {0, 1}})", made, e, nil)
	made, e = gmod.Closure(rows{{2, 4}}.Whole())
	proof.Taken(t, "Closure({{2, 4}})", made, e, rows{{1, 2}}.Whole())
	count, e := gmod.Quotient(rows{{1, 0}, {0, 1}}.Whole(), rows{{2, 0}, {0, 3}}.Whole())
	proof.Taken(t, "Quotient({{1, 0}, {0, 1}}, {{2, 0}, {0, 3}})", count, e, proof.Z(36))
	count, e = gmod.Quotient(rows{{2}}.Whole(), rows{{3}}.Whole())
	proof.Refused(t, "Quotient({{2}}, {{3}})", count, e, api.ErrNone)
	made, e = gmod.Sum(nil, rows{{3}}.Whole())
	proof.Taken(t, "Sum(none, {{3}})", made, e, rows{{3}}.Whole())
}
