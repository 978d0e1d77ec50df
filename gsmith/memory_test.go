package gsmith_test

import (
	"testing"

	"tessel/api"
	"tessel/gsmith"
	"tessel/proof"
)

func calls() []proof.Call {
	return []proof.Call{
		proof.One("Factors", func(m api.M) []any { return proof.All(gsmith.Factors(m)) }),
		proof.One("Smith", func(m api.M) []any { return proof.All(gsmith.Smith(m)) }),
		proof.One("Exponent", func(m api.M) []any { return proof.All(gsmith.Exponent(m)) }),
	}
}

// matrices are ones of all kinds, such as are diagonal or in Hermite form among them, and such as are not good.
func matrices() []api.M {
	nought, two, d := proof.Longer(g(0, 0)), proof.Longer(g(2, 0)), proof.Dice(9)
	return append(proof.Matrices(),
		api.M{{two, nought}, {nought, proof.Longer(g(6, 0))}}, api.M{{two, nought}, {nought, g(0, -3)}}, api.M{{g(1, 0), nought}, {nought, g(1, 0)}}, api.M{{g(1, 0), d.G(5)}, {nought, two}},
		api.M{{nought}}, api.M{{g(0, -1)}}, api.M{{g(5, 3)}, {nought}}, api.M{{nought, nought, two}}, api.M{{nought, nought}, {g(3, 0), d.G(2)}, {nought, two}}, d.M(3, 4, 2), d.M(4, 2, 2),
	)
}

func TestMemory(t *testing.T) { // R2, R4, and numbers by their values
	proof.Check(t, calls(), proof.Lists(matrices(), 1))
}

func TestLong(t *testing.T) { // R1: on long numbers, and on very many noughts, each call ends
	proof.CheckLong(t, calls(), proof.Lists(proof.Longs(), 1))
}
