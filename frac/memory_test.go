package frac_test

import (
	"math"
	"slices"
	"testing"

	"tessel/api"
	"tessel/frac"
	"tessel/proof"
	"tessel/zint"
)

func ofTwo(name string, f operation) proof.Call {
	return proof.Two(name, func(a, b api.Q) []any { return proof.All(f(a, b)) })
}

func calls() []proof.Call {
	list := []proof.Call{
		proof.One("Make", func(a api.Q) []any { return proof.All(frac.Make(a.Num, a.Den)) }),
		proof.Two("Make of two numerators", func(a, b api.Q) []any { return proof.All(frac.Make(a.Num, b.Num)) }),
		proof.Two("Of", func(a, b api.Q) []any {
			n, _ := zint.Int(a.Num)
			return proof.All(frac.Of(math.Ldexp(float64(n), -zint.Bits(b.Num))))
		}),
		proof.One("Floor", func(a api.Q) []any { return proof.All(frac.Floor(a)) }),
		proof.One("Round", func(a api.Q) []any { return proof.All(frac.Round(a)) }),
		proof.Two("Cmp", func(a, b api.Q) []any { return proof.All(frac.Cmp(a, b)) }),
		proof.One("Text", func(a api.Q) []any { return proof.All(frac.Text(a)) }),
		proof.One("Parse", func(a api.Q) []any { s, _ := frac.Text(a); return proof.All(frac.Parse(s)) }),
	}
	for _, o := range operations() {
		list = append(list, ofTwo(o.name, o.play))
	}
	for _, n := range []int{-1, 0, 1, 2, 7, 1 << 40} {
		list = append(list, proof.One("Pow", func(a api.Q) []any { return proof.All(frac.Pow(a, n)) }))
	}
	return list
}

func TestMemory(t *testing.T) { // R2, R4, and numbers by their values
	proof.Check(t, calls(), proof.Pairs(samples()))
}

func TestAnswersAreLow(t *testing.T) { // lowest terms, Den above 0
	for _, o := range operations() {
		for _, a := range samples() {
			for _, b := range samples() {
				if got, e := o.play(a, b); e == api.OK && !isLow(got) {
					t.Errorf("%s(%v, %v): %v is not in lowest terms", o.name, a, b, got)
				}
			}
			for n := range 4 {
				if got, e := frac.Pow(a, n); e == api.OK && !isLow(got) {
					t.Errorf("Pow(%v, %d): %v is not in lowest terms", a, n, got)
				}
			}
			if got, e := frac.Make(a.Num, a.Den); e == api.OK && !isLow(got) {
				t.Errorf("Make of %v: %v is not in lowest terms", a, got)
			}
		}
	}
}

func TestLong(t *testing.T) { // R1: on long numbers, and on very many noughts, each call ends
	long := api.Z{Neg: true, Mag: slices.Repeat([]uint32{1<<32 - 1, 7, 1 << 31}, 200)}
	nought := api.Z{Neg: true, Mag: make([]uint32, 1<<17)}
	three := api.Z{Neg: true, Mag: append([]uint32{3}, make([]uint32, 1<<17)...)}
	proof.CheckLong(t, calls(), proof.Pairs([]api.Q{{Num: long, Den: three}, {Num: three, Den: long}, {Num: nought, Den: three}, {Num: three, Den: nought}, {Num: long, Den: long}}))
}
