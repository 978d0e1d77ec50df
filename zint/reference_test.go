package zint_test

import (
	"slices"
	"testing"

	"tessel/api"
	"tessel/nat"
	"tessel/proof"
)

func z(n int64) api.Z { return proof.Z(n) }

// less1 and more1 tell the neighbours of a number above 0.
func less1(a api.Z) api.Z {
	amount, _ := nat.Sub(a.Mag, []uint32{1})
	return proof.Number(false, amount...)
}

func more1(a api.Z) api.Z { return proof.Number(false, nat.Add(a.Mag, []uint32{1})...) }

func minus(a api.Z) api.Z { return proof.Number(!a.Neg, slices.Clone(a.Mag)...) }

// is tells where an answer isn't the number that is wanted, as it lies there: want is canonical.
func is(t *testing.T, what string, got, want api.Z) {
	t.Helper()
	if !proof.Alike(got, want) {
		t.Errorf("%s: %v, want %v", what, got, want)
	}
}

// taken tells where a call doesn't answer what is wanted.
func taken(t *testing.T, what string, got api.Z, e api.Errno, want api.Z) {
	t.Helper()
	if e != api.OK {
		t.Errorf("%s: error %d", what, e)
	}
	is(t, what, got, want)
}

// refused tells where a call isn't refused as it should be, or answers something beside the error.
func refused(t *testing.T, what string, got api.Z, e, want api.Errno) {
	t.Helper()
	if e != want || got.Neg || len(got.Mag) != 0 {
		t.Errorf("%s: %v, error %d, want error %d", what, got, e, want)
	}
}

// smalls are numbers of all pairs of which sums, products and quotients are held against the machine's.
func smalls() []int64 {
	list := []int64{1<<31 - 1, 1 << 31, -1 << 31, 1<<32 - 1, 1 << 32, -1 << 32, 1<<32 + 1, -1<<32 - 1, 3037000499, -3037000499}
	for n := int64(-25); n <= 25; n++ {
		list = append(list, n)
	}
	return list
}

// samples are numbers of all kinds, canonical or not.
func samples() []api.Z {
	list := append(proof.Noughts(), z(1), z(-1), z(2), z(-2), z(12), z(-18), z(1<<32), z(-1<<32), z(-1<<63), proof.Longer(z(7)), proof.Longer(z(-7)), proof.Longer(z(-1<<40)))
	d := proof.Dice(1)
	for range 12 {
		list = append(list, d.Z(6))
	}
	return list
}
