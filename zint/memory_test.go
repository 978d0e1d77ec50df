package zint_test

import (
	"slices"
	"testing"

	"tessel/api"
	"tessel/proof"
	"tessel/zint"
)

func ofTwo(name string, f func(a, b api.Z) api.Z) proof.Call {
	return proof.Two(name, func(a, b api.Z) []any { return proof.All(f(a, b)) })
}

func checked(name string, f func(a, b api.Z) (api.Z, api.Errno)) proof.Call {
	return proof.Two(name, func(a, b api.Z) []any { return proof.All(f(a, b)) })
}

func division2(name string, f division) proof.Call {
	return proof.Two(name, func(a, b api.Z) []any { return proof.All(f(a, b)) })
}

func calls() []proof.Call {
	return []proof.Call{
		proof.One("From", func(a api.Z) []any { n, _ := zint.Int(a); return proof.All(zint.From(n)) }),
		proof.One("Int", func(a api.Z) []any { return proof.All(zint.Int(a)) }),
		proof.One("Sign", func(a api.Z) []any { return proof.All(zint.Sign(a)) }),
		proof.Two("Cmp", func(a, b api.Z) []any { return proof.All(zint.Cmp(a, b)) }),
		proof.One("Neg", func(a api.Z) []any { return proof.All(zint.Neg(a)) }),
		proof.One("Abs", func(a api.Z) []any { return proof.All(zint.Abs(a)) }),
		ofTwo("Add", zint.Add), ofTwo("Sub", zint.Sub), ofTwo("Mul", zint.Mul), ofTwo("Gcd", zint.Gcd),
		division2("FloorDiv", zint.FloorDiv), division2("RoundDiv", zint.RoundDiv),
		checked("Exact", zint.Exact),
		checked("Exact of a product", func(a, b api.Z) (api.Z, api.Errno) { return zint.Exact(zint.Mul(a, b), b) }),
		proof.Two("Xgcd", func(a, b api.Z) []any { return proof.All(zint.Xgcd(a, b)) }),
		checked("Inverse", zint.Inverse),
		proof.One("Bits", func(a api.Z) []any { return proof.All(zint.Bits(a)) }),
		proof.One("Text", func(a api.Z) []any { return proof.All(zint.Text(a)) }),
		proof.One("Parse", func(a api.Z) []any { return proof.All(zint.Parse(zint.Text(a))) }),
	}
}

func TestMemory(t *testing.T) { // R2, R4, and numbers by their values
	proof.Check(t, calls(), proof.Pairs(samples()))
}

func TestLong(t *testing.T) { // R1: on long numbers, and on very many noughts, each call ends
	long := api.Z{Neg: true, Mag: slices.Repeat([]uint32{1<<32 - 1, 7, 1 << 31}, 500)}
	nought := api.Z{Neg: true, Mag: make([]uint32, 1<<20)}
	proof.CheckLong(t, calls(), proof.Pairs([]api.Z{long, nought, z(3), z(-5)}))
}
