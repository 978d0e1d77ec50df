package gdet_test

import (
	"testing"

	"tessel/api"
	"tessel/gdet"
	"tessel/proof"
)

func ofOne() []proof.Call {
	return append(append(squaresOnly(), ofAll()...), proof.One("Solve of one of its rows", func(m api.M) []any {
		if len(m) == 0 {
			return nil
		}
		return proof.All(gdet.Solve(m, m[len(m)-1]))
	}))
}

func ofVector() []proof.Call {
	return []proof.Call{
		proof.Two("Solve", func(m api.M, v []api.G) []any { return proof.All(gdet.Solve(m, v)) }),
	}
}

// matrices are ones of all kinds, such as have an inverse among them, and such as are not good.
func matrices() []api.M {
	nought, d := proof.Longer(g(0, 0)), proof.Dice(12)
	return append(proof.Matrices(),
		api.M{{nought, g(1, 0)}, {g(0, -1), nought}}, api.M{{g(1, 0), d.G(5)}, {nought, proof.Longer(g(0, -1))}}, api.M{{g(-7, 3)}, {nought}},
		api.M{{nought, g(1, 0)}, {nought, d.G(5)}}, api.M{{d.G(5)}}, api.M{{g(0, 1)}}, api.M{{nought}}, d.M(4, 4, 3),
	)
}

func TestMemory(t *testing.T) { // R2, R4, and numbers by their values
	proof.Check(t, ofOne(), proof.Lists(matrices(), 1))
	proof.Check(t, ofVector(), proof.Both(matrices(), proof.Vectors()))
}

func TestLong(t *testing.T) { // R1: on long numbers, and on very many noughts, each call ends
	proof.CheckLong(t, ofOne(), proof.Lists(proof.Longs(), 1))
	proof.CheckLong(t, ofVector(), proof.Both(proof.Longs(), proof.LongVectors()))
}
