package gmod_test

import (
	"testing"

	"tessel/api"
	"tessel/gmod"
	"tessel/proof"
)

func ofOne() []proof.Call {
	return []proof.Call{
		proof.One("Kernel", func(m api.M) []any { return proof.All(gmod.Kernel(m)) }),
		proof.One("Closure", func(m api.M) []any { return proof.All(gmod.Closure(m)) }),
	}
}

func ofNumber() []proof.Call {
	return []proof.Call{proof.Two("Scale", func(m api.M, g api.G) []any { return proof.All(gmod.Scale(m, g)) })}
}

// ofTwo are the calls of two modules.
func ofTwo() []proof.Call {
	return []proof.Call{
		proof.Two("Sum", func(a, b api.M) []any { return proof.All(gmod.Sum(a, b)) }),
		proof.Two("Meet", func(a, b api.M) []any { return proof.All(gmod.Meet(a, b)) }),
		proof.Two("Contains", func(a, b api.M) []any { return proof.All(gmod.Contains(a, b)) }),
		proof.Two("Quotient", func(a, b api.M) []any { return proof.All(gmod.Quotient(a, b)) }),
	}
}

func ofMap() []proof.Call {
	return []proof.Call{proof.Two("Image", func(a, m api.M) []any { return proof.All(gmod.Image(a, m)) })}
}

// ofPart are the calls of two modules of which the second has some of the first one's rows, in the same memory.
func ofPart() []proof.Call {
	part := func(m api.M) api.M { return m[len(m)/2:] }
	return []proof.Call{
		proof.One("Sum with a part", func(m api.M) []any { return proof.All(gmod.Sum(m, part(m))) }),
		proof.One("Meet with a part", func(m api.M) []any { return proof.All(gmod.Meet(m, part(m))) }),
		proof.One("Contains of a part", func(m api.M) []any { return proof.All(gmod.Contains(m, part(m))) }),
		proof.One("Quotient by a part", func(m api.M) []any { return proof.All(gmod.Quotient(m, part(m))) }),
	}
}

func TestMemory(t *testing.T) { // R2, R4, and numbers by their values
	proof.Check(t, append(ofOne(), ofPart()...), proof.Lists(proof.Modules(), 1))
	proof.Check(t, append(ofTwo(), ofMap()...), proof.Pairs(proof.Modules()))
	proof.Check(t, ofNumber(), proof.Both(proof.Modules(), proof.Kinds()))
}

func TestLong(t *testing.T) { // R1: on long numbers, and on very many noughts, each call ends
	proof.CheckLong(t, append(ofOne(), ofPart()...), proof.Lists(proof.Longs(), 1))
	proof.CheckLong(t, append(ofTwo(), ofMap()...), proof.Pairs(proof.Longs()))
}
