package gres_test

import (
	"slices"
	"testing"

	"tessel/api"
	"tessel/gres"
	"tessel/proof"
)

func ofOne() []proof.Call {
	return []proof.Call{
		proof.One("Count", func(m api.G) []any { return proof.All(gres.Count(m)) }),
		proof.One("All", func(m api.G) []any { return proof.All(gres.All(m)) }),
		proof.One("Units", func(m api.G) []any { return proof.All(gres.Units(m)) }),
	}
}

func ofTwo() []proof.Call {
	return []proof.Call{
		proof.Two("Reduce", func(a, m api.G) []any { return proof.All(gres.Reduce(a, m)) }),
		proof.Two("Inverse", func(a, m api.G) []any { return proof.All(gres.Inverse(a, m)) }),
		proof.Two("Order", func(a, m api.G) []any { return proof.All(gres.Order(a, m)) }),
	}
}

func ofThree() []proof.Call {
	return []proof.Call{
		proof.Many("Mul", 3, func(a []api.G) []any { return proof.All(gres.Mul(a[0], a[1], a[2])) }),
		proof.Many("Pow", 3, func(a []api.G) []any { return proof.All(gres.Pow(a[0], a[1].Re, a[2])) }),
	}
}

func ofFour() []proof.Call {
	return []proof.Call{
		proof.Many("Crt", 4, func(a []api.G) []any { return proof.All(gres.Crt(a[0], a[1], a[2], a[3])) }),
	}
}

// samples are numbers of all kinds and forms, the most telling ones first.
func samples() []api.G {
	d := proof.Dice(7)
	return []api.G{
		{Re: api.Z{Neg: true}}, g(0, -1), proof.Longer(g(3, 2)), g(4, 0), d.G(5),
		{Im: api.Z{Mag: []uint32{0, 0}}}, proof.Longer(g(1, 0)), g(-5, 1), proof.Longer(g(0, 7)), g(1<<33, -1<<32), d.G(3),
		g(-1, 0), g(1, 1), g(64, 0), g(64, 1), {Re: proof.Power2(64), Im: z(-1)}, {Im: proof.Power2(200)}, d.G(8), d.G(9),
	}
}

func TestMemory(t *testing.T) { // R2, R4, and numbers by their values
	proof.Check(t, ofOne(), proof.Lists(samples(), 1))
	proof.Check(t, ofTwo(), proof.Pairs(samples()))
	proof.Check(t, ofThree(), proof.Lists(samples()[:11], 3))
	proof.Check(t, ofFour(), proof.Lists(samples()[:5], 4))
}

func TestLong(t *testing.T) { // R1: on long numbers, and on very many noughts, each call ends
	long := api.Z{Neg: true, Mag: slices.Repeat([]uint32{1<<32 - 1, 7, 1 << 31}, 20)}
	nought := api.Z{Neg: true, Mag: make([]uint32, 1<<16)}
	three := api.Z{Mag: append([]uint32{3}, make([]uint32, 1<<16)...)}
	list := []api.G{{Re: long, Im: three}, {Re: three, Im: nought}, {Re: nought, Im: nought}}
	proof.CheckLong(t, ofOne(), proof.Lists(list, 1))
	proof.CheckLong(t, ofTwo(), proof.Pairs(list))
	proof.CheckLong(t, ofThree(), proof.Lists(list, 3))
	proof.CheckLong(t, ofFour(), proof.Lists(list, 4))
}
