package ghnf_test

import (
	"testing"

	"tessel/api"
	"tessel/ghnf"
	"tessel/proof"
)

func ofOne() []proof.Call {
	return []proof.Call{
		proof.One("Form", func(m api.M) []any { return proof.All(ghnf.Form(m)) }),
		proof.One("Pivots", func(m api.M) []any { return proof.All(ghnf.Pivots(m)) }),
		proof.One("Index", func(m api.M) []any { return proof.All(ghnf.Index(m)) }),
	}
}

func ofTwo() []proof.Call {
	return []proof.Call{proof.Two("Same", func(a, b api.M) []any { return proof.All(ghnf.Same(a, b)) })}
}

// ofMembers are the calls of a matrix and a vector that end with ErrNone where it is no member.
func ofMembers() []proof.Call {
	return []proof.Call{
		proof.Two("Member", func(m api.M, v []api.G) []any { return proof.All(ghnf.Member(m, v)) }),
		proof.Two("Lift", func(m api.M, v []api.G) []any { return proof.All(ghnf.Lift(m, v)) }),
	}
}

func ofVector() []proof.Call {
	return append(ofMembers(), proof.Two("Rest", func(m api.M, v []api.G) []any { return proof.All(ghnf.Rest(m, v)) }))
}

// ofRow are the calls of a matrix and one of its rows, which share memory.
func ofRow() []proof.Call {
	row := func(m api.M) []api.G { return append(m[:len(m):len(m)], nil)[len(m)/2] }
	return []proof.Call{
		proof.One("Member of a row", func(m api.M) []any { return proof.All(ghnf.Member(m, row(m))) }),
		proof.One("Lift of a row", func(m api.M) []any { return proof.All(ghnf.Lift(m, row(m))) }),
		proof.One("Rest of a row", func(m api.M) []any { return proof.All(ghnf.Rest(m, row(m))) }),
		proof.One("Same of a row", func(m api.M) []any { return proof.All(ghnf.Same(m, api.M{row(m)})) }),
	}
}

// matrices are ones of all kinds, such as are in Hermite form among them, and such as are not good.
func matrices() []api.M {
	nought, two, d := proof.Longer(g(0, 0)), proof.Longer(g(2, 0)), proof.Dice(8)
	return append(proof.Matrices(),
		api.M{{two, nought}, {nought, proof.Longer(g(1, 1))}}, api.M{{g(1, 0), d.G(5)}, {nought, g(1, 0)}}, api.M{{nought, g(0, -1)}}, api.M{{nought}}, api.M{{nought}, {two}, {g(3, 0)}},
		api.M{{two, nought, g(1, 0)}, {nought, nought, g(5, 3)}}, api.M{{nought, nought}, {g(3, 0), d.G(2)}, {nought, two}}, d.M(4, 2, 2),
	)
}

func TestMemory(t *testing.T) { // R2, R4, and numbers by their values
	proof.Check(t, append(ofOne(), ofRow()...), proof.Lists(matrices(), 1))
	proof.Check(t, ofTwo(), proof.Pairs(matrices()))
	proof.Check(t, ofVector(), proof.Both(matrices(), proof.Vectors()))
}

func TestLong(t *testing.T) { // R1: on long numbers, and on very many noughts, each call ends
	proof.CheckLong(t, append(ofOne(), ofRow()...), proof.Lists(proof.Longs(), 1))
	proof.CheckLong(t, ofTwo(), proof.Pairs(proof.Longs()))
	proof.CheckLong(t, ofVector(), proof.Both(proof.Longs(), proof.LongVectors()))
}
