package gmat_test

import (
	"testing"

	"tessel/api"
	"tessel/gmat"
	"tessel/proof"
)

func TestExamples(t *testing.T) { // the chapter's table
	a := proof.Matrix([]complex128{1, 2}, []complex128{1i, 0})
	makes := func(what string, got answered, want ...[]complex128) {
		t.Helper()
		taken(t, what, got.m, got.e, proof.Matrix(want...))
	}
	makes("Ident(0)", part(gmat.Ident(0)))
	makes("Mul(A, A)", part(gmat.Mul(a, a)), []complex128{1 + 2i, 2}, []complex128{1i, 2i})
	makes("Adj(A)", part(gmat.Adj(a)), []complex128{1, -1i}, []complex128{2, 0})
	makes("Gram(A)", part(gmat.Gram(a)), []complex128{5, -1i}, []complex128{1i, 1})
	makes("Trans({{}})", part(gmat.Trans(api.M{{}})))
	makes("AddRow(A, 0, 1, i)", part(gmat.AddRow(a, 0, 1, g(0, 1))), []complex128{0, 2}, []complex128{1i, 0})
	makes("Swap(A, 0, 1)", part(gmat.Swap(a, 0, 1)), []complex128{1i, 0}, []complex128{1, 2})
	makes("Turn(A, 1, 3)", part(gmat.Turn(a, 1, 3)), []complex128{1, 2}, []complex128{1, 0})
	makes("Parse(1 2;i 0)", part(gmat.Parse("1 2;i 0")), []complex128{1, 2}, []complex128{1i, 0})
	makes("Parse of a blank", part(gmat.Parse(" ")))
	proof.Is(t, "Good({{1}, {1, 2}})", gmat.Good(api.M{{g(1, 0)}, {g(1, 0), g(2, 0)}}), false)
	height, width, e := gmat.Size(api.M{{}, {}})
	proof.Taken(t, "Size({{}, {}})", []int{height, width}, e, []int{2, 0})
	v, e := gmat.Times(proof.Vector(1, 1i), a)
	proof.Taken(t, "Times({1, i}, A)", v, e, proof.Vector(0, 2))
	x, e := gmat.Dot(proof.Vector(1, 1i), proof.Vector(1i, 1))
	proof.Taken(t, "Dot({1, i}, {i, 1})", x, e, g(0, 0))
	proof.Is(t, "Length({3+4i, 1})", gmat.Length(proof.Vector(3+4i, 1)), proof.Z(26))
	tells(t, a, "1 2; i 0")
	for want, list := range map[api.Errno][]answered{
		api.ErrLimit:  {part(gmat.Ident(65))},
		api.ErrArg:    {part(gmat.AddRow(a, 0, 0, g(1, 0)))},
		api.ErrShape:  {part(gmat.Parse("1 2; 3"))},
		api.ErrSyntax: {part(gmat.Parse("1;")), part(gmat.Parse("1, 2"))},
	} {
		for _, got := range list {
			proof.Refused(t, "an example", got.m, got.e, want)
		}
	}
	v, e = gmat.Times(proof.Vector(1), a)
	proof.Refused(t, "Times({1}, A)", v, e, api.ErrShape)
	text, e := gmat.Text(api.M{{}})
	proof.Refused(t, "Text({{}})", text, e, api.ErrShape)
}
