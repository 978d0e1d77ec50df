package gdet_test

import (
	"slices"
	"testing"

	"tessel/api"
	"tessel/gdet"
	"tessel/proof"
)

func ofOne() []proof.Call {
	return append(append(squaresOnly(), ofAll()...), proof.One("Solve of one of its rows", func(m api.M) []any {
		if len(m) == 0 {
			return nil
		}
		return proof.All(gdet.Solve(m, m[len(m)-1]))
	}))
}

func ofVector() []proof.Call {
	return []proof.Call{
		proof.Two("Solve", func(m api.M, v []api.G) []any { return proof.All(gdet.Solve(m, v)) }),
	}
}

// matrices are ones of all kinds, such as have an inverse among them, and such as are not good.
func matrices() []api.M {
	nought, d := proof.Longer(g(0, 0)), proof.Dice(12)
	return append(proof.Matrices(),
		api.M{{nought, g(1, 0)}, {g(0, -1), nought}}, api.M{{g(1, 0), d.G(5)}, {nought, proof.Longer(g(0, -1))}}, api.M{{g(-7, 3)}, {nought}},
		api.M{{nought, g(1, 0)}, {nought, d.G(5)}}, api.M{{d.G(5)}}, api.M{{g(0, 1)}}, api.M{{nought}}, d.M(4, 4, 3),
	)
}

func TestMemory(t *testing.T) { // R2, R4, and numbers by their values
	list := proof.Kinds()
	vectors := [][]api.G{nil, {}, list[:1], list[6:7], list[10:], list[1:3], list[7:9], list[5:8], {list[0], list[6]}, list[:3], list[5:]}
	var withVector [][]any
	for _, m := range matrices() {
		for _, v := range vectors {
			withVector = append(withVector, []any{m, v})
		}
	}
	proof.Check(t, ofOne(), proof.Lists(matrices(), 1))
	proof.Check(t, ofVector(), withVector)
}

func TestLong(t *testing.T) { // R1: on long numbers, and on very many noughts, each call ends
	long := api.Z{Neg: true, Mag: slices.Repeat([]uint32{1<<32 - 1, 7, 1 << 31}, 100)}
	nought := api.Z{Neg: true, Mag: make([]uint32, 1<<16)}
	three := api.Z{Neg: true, Mag: append([]uint32{3}, make([]uint32, 1<<16)...)}
	x, y, zero := api.G{Re: long, Im: three}, api.G{Re: three, Im: nought}, api.G{Re: nought, Im: nought}
	list := []api.M{{{x, y}, {zero, x}}, {{zero, zero}, {y, y}}, {{x}}, {{x}, {zero}}, {{x, x}, {x, x}}, {{zero, x}, {y, zero}}, {{x}, {zero, y}}}
	proof.CheckLong(t, ofOne(), proof.Lists(list, 1))
	proof.CheckLong(t, ofVector(), [][]any{{list[0], []api.G{x, x}}, {list[2], []api.G{y}}, {list[5], []api.G{zero, x}}, {api.M(nil), []api.G{zero, x}}})
}
