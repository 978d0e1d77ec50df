package gfrac_test

import (
	"math"
	"slices"
	"testing"

	"tessel/api"
	"tessel/gfrac"
	"tessel/proof"
	"tessel/zint"
)

func calls() []proof.Call {
	list := []proof.Call{
		proof.One("Of", func(a api.C) []any { return proof.All(gfrac.Of(api.G{Re: a.Re.Num, Im: a.Im.Num})) }),
		proof.One("OfFloat", func(a api.C) []any {
			n, _ := zint.Int(a.Re.Num)
			m, _ := zint.Int(a.Im.Num)
			return proof.All(gfrac.OfFloat(complex(math.Ldexp(float64(n), -zint.Bits(a.Im.Num)), float64(m))))
		}),
		proof.One("Conj", func(a api.C) []any { return proof.All(gfrac.Conj(a)) }),
		proof.One("Norm", func(a api.C) []any { return proof.All(gfrac.Norm(a)) }),
		proof.One("Round", func(a api.C) []any { return proof.All(gfrac.Round(a)) }),
		proof.Two("Equal", func(a, b api.C) []any { return proof.All(gfrac.Equal(a, b)) }),
		proof.One("Text", func(a api.C) []any { return proof.All(gfrac.Text(a)) }),
		proof.One("Parse", func(a api.C) []any { s, _ := gfrac.Text(a); return proof.All(gfrac.Parse(s)) }),
	}
	for _, o := range operations() {
		list = append(list, proof.Two(o.name, func(a, b api.C) []any { return proof.All(o.play(a, b)) }))
	}
	return list
}

func TestMemory(t *testing.T) { // R2, R4, and numbers by their values
	proof.Check(t, calls(), proof.Pairs(samples()))
}

func TestLong(t *testing.T) { // R1: on long numbers, and on very many noughts, each call ends
	long := api.Z{Neg: true, Mag: slices.Repeat([]uint32{1<<32 - 1, 7, 1 << 31}, 60)}
	nought := api.Z{Neg: true, Mag: make([]uint32, 1<<16)}
	three := api.Z{Neg: true, Mag: append([]uint32{3}, make([]uint32, 1<<16)...)}
	a, b, c, d := api.Q{Num: long, Den: three}, api.Q{Num: three, Den: long}, api.Q{Num: nought, Den: three}, api.Q{Num: three, Den: nought}
	proof.CheckLong(t, calls(), proof.Pairs([]api.C{{Re: a, Im: b}, {Re: b, Im: c}, {Re: c, Im: c}, {Re: b, Im: d}, {Re: a, Im: a}}))
}
