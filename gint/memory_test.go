package gint_test

import (
	"slices"
	"testing"

	"tessel/api"
	"tessel/gint"
	"tessel/proof"
	"tessel/zint"
)

// ofOne and ofTwo are calls that answer one number.
func ofOne(name string, f func(a api.G) api.G) proof.Call {
	return proof.One(name, func(a api.G) []any { return proof.All(f(a)) })
}

func ofTwo(name string, f func(a, b api.G) api.G) proof.Call {
	return proof.Two(name, func(a, b api.G) []any { return proof.All(f(a, b)) })
}

func calls() []proof.Call {
	list := []proof.Call{
		ofOne("From", func(a api.G) api.G {
			re, _ := zint.Int(a.Re)
			im, _ := zint.Int(a.Im)
			return gint.From(re, im)
		}),
		ofTwo("Add", gint.Add), ofTwo("Sub", gint.Sub), ofTwo("Mul", gint.Mul), ofOne("Neg", gint.Neg), ofOne("Conj", gint.Conj), ofTwo("Gcd", gint.Gcd),
		proof.One("Norm", func(a api.G) []any { return proof.All(gint.Norm(a)) }),
		proof.Two("Equal", func(a, b api.G) []any { return proof.All(gint.Equal(a, b)) }),
		proof.One("IsUnit", func(a api.G) []any { return proof.All(gint.IsUnit(a)) }),
		proof.One("Canon", func(a api.G) []any { return proof.All(gint.Canon(a)) }),
		proof.Two("RoundDiv", func(a, b api.G) []any { return proof.All(gint.RoundDiv(a, b)) }),
		proof.Two("Exact", func(a, b api.G) []any { return proof.All(gint.Exact(a, b)) }),
		proof.Two("Exact of a product", func(a, b api.G) []any { return proof.All(gint.Exact(product(a, b), b)) }),
		proof.Two("Xgcd", func(a, b api.G) []any { return proof.All(gint.Xgcd(a, b)) }),
		proof.Two("Cmp", func(a, b api.G) []any { return proof.All(gint.Cmp(a, b)) }),
		proof.One("Text", func(a api.G) []any { return proof.All(gint.Text(a)) }),
		proof.One("Parse", func(a api.G) []any { return proof.All(gint.Parse(gint.Text(a))) }),
	}
	for k := -1; k < 4; k++ {
		list = append(list, ofOne("Turn", func(a api.G) api.G { return gint.Turn(a, k) }))
	}
	return list
}

func TestMemory(t *testing.T) { // R2, R4, and numbers by their values
	proof.Check(t, calls(), proof.Pairs(samples()))
}

func TestLong(t *testing.T) { // R1: on long numbers, and on very many noughts, each call ends
	long := api.Z{Neg: true, Mag: slices.Repeat([]uint32{1<<32 - 1, 7, 1 << 31}, 40)}
	nought := api.Z{Neg: true, Mag: make([]uint32, 1<<16)}
	three := api.Z{Neg: true, Mag: append([]uint32{3}, make([]uint32, 1<<16)...)}
	proof.CheckLong(t, calls(), proof.Pairs([]api.G{{Re: long, Im: three}, {Re: three, Im: long}, {Re: nought, Im: three}, {Re: nought, Im: nought}, {Re: long, Im: long}}))
}
