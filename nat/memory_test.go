package nat_test

import (
	"math"
	"slices"
	"testing"

	"tessel/api"
	"tessel/nat"
	"tessel/proof"
)

func ofTwo(name string, f func(a, b []uint32) []uint32) proof.Call {
	return proof.Two(name, func(a, b []uint32) []any { return proof.All(f(a, b)) })
}

func withCount(name string, f func(a []uint32, n int) ([]uint32, api.Errno), n int) proof.Call {
	return proof.One(name, func(a []uint32) []any { return proof.All(f(a, n)) })
}

func calls() []proof.Call {
	return []proof.Call{
		proof.One("Norm", func(a []uint32) []any { return proof.All(nat.Norm(a)) }),
		proof.Two("Cmp", func(a, b []uint32) []any { return proof.All(nat.Cmp(a, b)) }),
		proof.One("Bits", func(a []uint32) []any { return proof.All(nat.Bits(a)) }),
		ofTwo("Add", nat.Add), ofTwo("Mul", nat.Mul), ofTwo("Gcd", nat.Gcd),
		proof.Two("Sub", func(a, b []uint32) []any { return proof.All(nat.Sub(a, b)) }),
		proof.Two("DivMod", func(a, b []uint32) []any { return proof.All(nat.DivMod(a, b)) }),
		withCount("Shl by 0", nat.Shl, 0), withCount("Shl by 64", nat.Shl, 64), withCount("Shl by 5", nat.Shl, 5),
		withCount("Shr by 0", nat.Shr, 0), withCount("Shr by 32", nat.Shr, 32), withCount("Shr by 5", nat.Shr, 5),
		withCount("Pow 0", nat.Pow, 0), withCount("Pow 1", nat.Pow, 1), withCount("Pow 3", nat.Pow, 3),
		proof.One("Root", func(a []uint32) []any { return proof.All(nat.Root(a)) }),
		proof.One("Text", func(a []uint32) []any { return proof.All(nat.Text(a)) }),
		proof.One("Parse", func(a []uint32) []any { return proof.All(nat.Parse(nat.Text(a))) }),
	}
}

func samples() [][]uint32 {
	d := dice(13)
	lists := [][]uint32{nil, {}, {0}, {1}, {1, 0}, {0, 0}, {7, 9, 0}, {0, 1}, ones(4)}
	for range 12 {
		lists = append(lists, d.number(6))
	}
	return lists
}

func TestMemory(t *testing.T) { // R2, R4, and numbers by their values
	proof.Check(t, calls(), proof.Pairs(samples()))
}

func TestAnswersApart(t *testing.T) { // R4: room behind a rest is not the quotient's, and the other way round
	q, r, _ := nat.DivMod([]uint32{5, 6, 7, 8, 9, 10}, []uint32{3, 4})
	wantQ, wantR := slices.Clone(q), slices.Clone(r)
	for range 20 {
		_ = append(q, ones(20)...)
		_ = append(r, ones(20)...)
		q, r = q[:cap(q)], r[:cap(r)]
	}
	if !slices.Equal(q[:len(wantQ)], wantQ) || !slices.Equal(r[:len(wantR)], wantR) {
		t.Error("what is appended to one changes the other")
	}
}

func TestPartOfList(t *testing.T) { // R4: as the other argument a list that shares its memory
	for _, f := range []func(a, b []uint32) []any{
		func(a, b []uint32) []any { return proof.All(nat.Add(a, b)) },
		func(a, b []uint32) []any { return proof.All(nat.Sub(a, b)) },
		func(a, b []uint32) []any { return proof.All(nat.Mul(a, b)) },
		func(a, b []uint32) []any { return proof.All(nat.DivMod(a, b)) },
		func(a, b []uint32) []any { return proof.All(nat.Gcd(a, b)) },
	} {
		for _, x := range samples() {
			a := slices.Clone(x)
			part := a[len(a)/2:]
			want := f(slices.Clone(x), slices.Clone(part))
			if got := f(a, part); !proof.Alike(got, want) || !slices.Equal(a, x) {
				t.Errorf("of %v and a part of it: %v, want %v", x, got, want)
			}
		}
	}
}

func TestEnds(t *testing.T) { // R1, R2: whatever the counts, each call ends, and an error stands alone
	counts := []int{math.MinInt, math.MinInt + 1, -65537, -65536, -33, -32, -1, 0, 1, 31, 32, 33, 65535, 65536, 65537, 1 << 31, 1 << 62, math.MaxInt - 1, math.MaxInt}
	for _, a := range append(samples(), make([]uint32, 5000), ones(3000)) {
		for _, n := range counts {
			up, e := nat.Shl(a, n)
			if e != api.OK && len(up) != 0 {
				t.Errorf("Shl by %d: error %d, and an answer", n, e)
			}
			down, e := nat.Shr(a, n)
			if e != api.OK && len(down) != 0 {
				t.Errorf("Shr by %d: error %d, and an answer", n, e)
			}
			power, e := nat.Pow(a, n)
			if e != api.OK && len(power) != 0 {
				t.Errorf("Pow %d: error %d, and an answer", n, e)
			}
		}
	}
}
