package gprime_test

import (
	"slices"
	"testing"

	"tessel/api"
	"tessel/gprime"
	"tessel/proof"
)

func calls() []proof.Call {
	return []proof.Call{
		proof.One("IsPrime", func(a api.G) []any { return proof.All(gprime.IsPrime(a)) }),
		proof.One("Factor", func(a api.G) []any {
			k, list, e := gprime.Factor(a)
			return proof.All(k, parts(list), e)
		}),
		proof.One("Over", func(a api.G) []any { return proof.All(gprime.Over(a.Re)) }),
		proof.One("Squares", func(a api.G) []any { return proof.All(gprime.Squares(a.Re)) }),
	}
}

// samples are numbers of all kinds and forms.
func samples() []api.G {
	list := proof.GNoughts()
	for _, a := range []complex128{1, -1i, 2, 5 + 3i, 7 - 24i, -90, 13i, 65519, 65521, -65535 + 362i, 65535 + 32768i, 65536 + 1i, 325 - 65535i, 1<<32 - 1, 1 << 32, complex(-25, 1<<40)} {
		list = append(list, proof.Forms(whole(a))...)
	}
	d := proof.Dice(6)
	for range 20 {
		list = append(list, d.G(3), whole(within(&d, 16)))
	}
	return append(list, api.G{Re: proof.Power2(64)}, api.G{Re: z(3), Im: proof.Power2(200)})
}

func TestMemory(t *testing.T) { // R2, R4, and numbers by their values
	proof.Check(t, calls(), proof.Lists(samples(), 1))
}

func TestListsAreNew(t *testing.T) { // R4: what is written over an answered list and its spare room doesn't come back
	for _, a := range []api.G{g(90, 0), g(-7, 24), g(0, 65535)} {
		_, list, _ := gprime.Factor(a)
		before := proof.Show(parts(list))
		clear(list[:cap(list)])
		_, again, _ := gprime.Factor(a)
		proof.Is(t, "Factor("+proof.Show(a)+") again", proof.Show(parts(again)), before)
	}
}

func TestLong(t *testing.T) { // R1: on long numbers, and on very many noughts, each call ends
	long := api.Z{Mag: slices.Repeat([]uint32{1<<32 - 1, 7, 1 << 31}, 1<<16)}
	nought := api.Z{Neg: true, Mag: make([]uint32, 1<<18)}
	three := api.Z{Mag: append([]uint32{3}, make([]uint32, 1<<18)...)}
	down := api.Z{Neg: true, Mag: long.Mag}
	proof.CheckLong(t, calls(), proof.Lists([]api.G{{Re: long, Im: three}, {Re: three, Im: down}, {Re: nought, Im: nought}, {Re: nought, Im: three}, {Re: three, Im: nought}, {Re: down, Im: down}}, 1))
}
