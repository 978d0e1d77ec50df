package zint_test

import (
	"slices"
	"testing"

	"tessel/api"
	"tessel/nat"
)

// z tells a canonical number, built apart from zint.
func z(n int64) api.Z {
	amount := uint64(n)
	if n < 0 {
		amount = -amount
	}
	return number(n < 0, uint32(amount), uint32(amount>>32))
}

// number tells a canonical number of its digits, the lowest one first.
func number(neg bool, digits ...uint32) api.Z {
	for len(digits) > 0 && digits[len(digits)-1] == 0 {
		digits = digits[:len(digits)-1]
	}
	return api.Z{Neg: neg && len(digits) > 0, Mag: digits}
}

func power2(n int) api.Z {
	digits := make([]uint32, n/32+1)
	digits[n/32] = 1 << (n % 32)
	return number(false, digits...)
}

// less1 and more1 tell the neighbours of a number above 0.
func less1(a api.Z) api.Z {
	amount, _ := nat.Sub(a.Mag, []uint32{1})
	return number(false, amount...)
}

func more1(a api.Z) api.Z { return number(false, nat.Add(a.Mag, []uint32{1})...) }

func minus(a api.Z) api.Z { return number(!a.Neg, slices.Clone(a.Mag)...) }

func canon(a api.Z) api.Z { return number(a.Neg, slices.Clone(a.Mag)...) }

// noughts are the forms in which 0 may be handed in.
func noughts() []api.Z {
	return []api.Z{{}, {Neg: true}, {Mag: []uint32{}}, {Neg: true, Mag: []uint32{}}, {Mag: []uint32{0}}, {Neg: true, Mag: []uint32{0}}, {Neg: true, Mag: []uint32{0, 0, 0}}}
}

// longer tells the same number in another form: with digits 0 at the top, and 0 with the other sign.
func longer(a api.Z) api.Z {
	zero := len(canon(a).Mag) == 0
	return api.Z{Neg: a.Neg != zero, Mag: append(slices.Clone(a.Mag), 0, 0)}
}

func alike(a, b api.Z) bool { return a.Neg == b.Neg && slices.Equal(a.Mag, b.Mag) }

// is tells where an answer isn't the number that is wanted, as it lies there: want is canonical.
func is(t *testing.T, what string, got, want api.Z) {
	t.Helper()
	if !alike(got, want) {
		t.Errorf("%s: %v, want %v", what, got, want)
	}
}

// taken tells where a call doesn't answer what is wanted.
func taken(t *testing.T, what string, got api.Z, e api.Errno, want api.Z) {
	t.Helper()
	if e != api.OK {
		t.Errorf("%s: error %d", what, e)
	}
	is(t, what, got, want)
}

// refused tells where a call isn't refused as it should be, or answers something beside the error.
func refused(t *testing.T, what string, got api.Z, e, want api.Errno) {
	t.Helper()
	if e != want || got.Neg || len(got.Mag) != 0 {
		t.Errorf("%s: %v, error %d, want error %d", what, got, e, want)
	}
}

// dice: numbers that come in the same order at each run.
type dice uint64

func (d *dice) next(n int) int {
	*d = *d*6364136223846793005 + 1442695040888963407
	return int(uint64(*d) >> 33 % uint64(n))
}

func (d *dice) digit() uint32 {
	edges := []uint32{0, 1, 2, 1<<31 - 1, 1 << 31, 1<<31 + 1, 1<<32 - 2, 1<<32 - 1}
	if k := d.next(2 * len(edges)); k < len(edges) {
		return edges[k]
	}
	return uint32(d.next(1<<16)<<16 | d.next(1<<16))
}

// number tells one of at most size digits, canonical or not.
func (d *dice) number(size int) api.Z {
	digits := make([]uint32, d.next(size+1))
	for i := range digits {
		digits[i] = d.digit()
	}
	return api.Z{Neg: d.next(2) == 1, Mag: append(digits, make([]uint32, d.next(3)/2)...)}
}

// divisor tells one that is not 0.
func (d *dice) divisor(size int) api.Z {
	for {
		if a := d.number(size); nat.Bits(a.Mag) != 0 {
			return a
		}
	}
}

// smalls are numbers of all pairs of which sums, products and quotients are held against the machine's.
func smalls() []int64 {
	list := []int64{1<<31 - 1, 1 << 31, -1 << 31, 1<<32 - 1, 1 << 32, -1 << 32, 1<<32 + 1, -1<<32 - 1, 3037000499, -3037000499}
	for n := int64(-25); n <= 25; n++ {
		list = append(list, n)
	}
	return list
}

// samples are numbers of all kinds, canonical or not.
func samples() []api.Z {
	list := append(noughts(), z(1), z(-1), z(2), z(-2), z(12), z(-18), z(1<<32), z(-1<<32), z(-1<<63), longer(z(7)), longer(z(-7)), longer(z(-1<<40)))
	d := dice(1)
	for range 12 {
		list = append(list, d.number(6))
	}
	return list
}
