package gmat_test

import (
	"slices"
	"testing"

	"tessel/api"
	"tessel/gmat"
	"tessel/proof"
	"tessel/zint"
)

func ofOne() []proof.Call {
	list := []proof.Call{
		proof.One("Good", func(m api.M) []any { return proof.All(gmat.Good(m)) }),
		proof.One("Size", func(m api.M) []any { return proof.All(gmat.Size(m)) }),
		proof.One("Ident", func(m api.M) []any { return proof.All(gmat.Ident(len(m))) }),
		proof.One("Text", func(m api.M) []any { return proof.All(gmat.Text(m)) }),
		proof.One("Parse", func(m api.M) []any { s, _ := gmat.Text(m); return proof.All(gmat.Parse(s)) }),
		proof.One("AddRow by one of its numbers", func(m api.M) []any {
			if len(m) == 0 || len(m[0]) == 0 {
				return nil
			}
			return proof.All(gmat.AddRow(m, len(m)-1, 0, m[0][0]))
		}),
		proof.One("Times one of its rows", func(m api.M) []any {
			if len(m) == 0 {
				return nil
			}
			return proof.All(gmat.Times(m[0], m))
		}),
	}
	for name, play := range callsOfOne() {
		list = append(list, proof.One(name, func(m api.M) []any { return proof.All(play(m)) }))
	}
	return list
}

func ofTwo() []proof.Call {
	return []proof.Call{
		proof.Two("Add", func(a, b api.M) []any { return proof.All(gmat.Add(a, b)) }),
		proof.Two("Sub", func(a, b api.M) []any { return proof.All(gmat.Sub(a, b)) }),
		proof.Two("Mul", func(a, b api.M) []any { return proof.All(gmat.Mul(a, b)) }),
		proof.Two("Equal", func(a, b api.M) []any { return proof.All(gmat.Equal(a, b)) }),
	}
}

func ofNumber() []proof.Call {
	return []proof.Call{
		proof.Two("Scale", func(m api.M, x api.G) []any { return proof.All(gmat.Scale(m, x)) }),
		proof.Two("AddRow", func(m api.M, q api.G) []any { return proof.All(gmat.AddRow(m, 0, 1, q)) }),
		proof.Two("Turn", func(m api.M, q api.G) []any { k, _ := zint.Int(q.Re); return proof.All(gmat.Turn(m, 0, int(k))) }),
	}
}

func ofVectors() []proof.Call {
	return []proof.Call{
		proof.Two("Dot", func(u, v []api.G) []any { return proof.All(gmat.Dot(u, v)) }),
		proof.One("Length", func(v []api.G) []any { return proof.All(gmat.Length(v)) }),
	}
}

func ofVector() []proof.Call {
	return []proof.Call{
		proof.Two("Times", func(v []api.G, m api.M) []any { return proof.All(gmat.Times(v, m)) }),
	}
}

func TestMemory(t *testing.T) { // R2, R4, and numbers by their values
	var withNumber, withVector [][]any
	for _, m := range proof.Matrices() {
		for _, x := range proof.Kinds() {
			withNumber = append(withNumber, []any{m, x})
		}
		for _, n := range proof.Matrices() {
			v := []api.G{}
			if len(n) > 0 {
				v = n[0]
			}
			withVector = append(withVector, []any{v, m})
		}
	}
	vectors := [][]api.G{nil, {}, proof.Kinds(), proof.Kinds()[:1], proof.Kinds()[3:5], proof.Kinds()[6:8], proof.Kinds()[8:], proof.Kinds()[9:]}
	proof.Check(t, ofOne(), proof.Lists(proof.Matrices(), 1))
	proof.Check(t, ofTwo(), proof.Pairs(proof.Matrices()))
	proof.Check(t, ofNumber(), withNumber)
	proof.Check(t, ofVectors(), proof.Pairs(vectors))
	proof.Check(t, ofVector(), withVector)
}

func TestLong(t *testing.T) { // R1: on long numbers, and on very many noughts, each call ends
	long := api.Z{Neg: true, Mag: slices.Repeat([]uint32{1<<32 - 1, 7, 1 << 31}, 200)}
	nought := api.Z{Neg: true, Mag: make([]uint32, 1<<16)}
	three := api.Z{Neg: true, Mag: append([]uint32{3}, make([]uint32, 1<<16)...)}
	x, y, zero := api.G{Re: long, Im: three}, api.G{Re: three, Im: nought}, api.G{Re: nought, Im: nought}
	list := []api.M{{{x, y}, {zero, x}}, {{zero, zero}, {y, y}}, {{x}}, {{x}, {zero, y}}}
	proof.CheckLong(t, ofOne(), proof.Lists(list, 1))
	proof.CheckLong(t, ofTwo(), proof.Pairs(list))
	proof.CheckLong(t, ofNumber(), [][]any{{list[0], x}, {list[0], y}, {list[1], zero}})
	proof.CheckLong(t, ofVectors(), proof.Pairs([][]api.G{{x, y}, {zero, x}, {zero}}))
	proof.CheckLong(t, ofVector(), [][]any{{list[0][0], list[0]}, {list[1][1], list[0]}, {list[1][0], list[3]}})
}
