package zint_test

import (
	"slices"

	"tessel/api"
	"tessel/nat"
	"tessel/proof"
)

func z(n int64) api.Z { return proof.Z(n) }

// less1 and more1 tell the neighbours of a number above 0.
func less1(a api.Z) api.Z {
	amount, _ := nat.Sub(a.Mag, []uint32{1})
	return proof.Number(false, amount...)
}

func more1(a api.Z) api.Z { return proof.Number(false, nat.Add(a.Mag, []uint32{1})...) }

func minus(a api.Z) api.Z { return proof.Number(!a.Neg, slices.Clone(a.Mag)...) }

// smalls are numbers of all pairs of which sums, products and quotients are held against the machine's.
func smalls() []int64 {
	list := []int64{1<<31 - 1, 1 << 31, -1 << 31, 1<<32 - 1, 1 << 32, -1 << 32, 1<<32 + 1, -1<<32 - 1, 3037000499, -3037000499}
	for n := int64(-25); n <= 25; n++ {
		list = append(list, n)
	}
	return list
}

// samples are numbers of all kinds, canonical or not.
func samples() []api.Z {
	list := append(proof.Noughts(), z(1), z(-1), z(2), z(-2), z(12), z(-18), z(1<<32), z(-1<<32), z(-1<<63), proof.Longer(z(7)), proof.Longer(z(-7)), proof.Longer(z(-1<<40)))
	d := proof.Dice(1)
	for range 12 {
		list = append(list, d.Z(6))
	}
	return list
}
