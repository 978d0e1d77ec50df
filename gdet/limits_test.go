package gdet_test

import (
	"fmt"
	"testing"

	"tessel/api"
	"tessel/gdet"
	"tessel/gint"
	"tessel/gmat"
	"tessel/proof"
	"tessel/zint"
)

const most = api.MaxSize

// placed tells a matrix of noughts but for where each row has its number.
func placed(n int, column func(i int) int, number func(i int) complex128) rows {
	return proof.Made(n, n, func(i, j int) complex128 {
		if j == column(i) {
			return number(i)
		}
		return 0
	})
}

func one(i int) complex128 { return 1 }

func same(i int) int { return i }

func TestDetOfExchanges(t *testing.T) { // P9.1, P9.5: each exchange turns the sign
	for n := 1; n <= most; n++ {
		got, e := gdet.Det(placed(n, func(i int) int { return n - 1 - i }, one).Whole())
		proof.Taken(t, fmt.Sprint("Det of ", n, " ones upside down"), got, e, proof.Whole(proof.Sign(n*(n-1)/2)))
		got, e = gdet.Det(placed(n, func(i int) int { return (i + 1) % n }, one).Whole())
		proof.Taken(t, fmt.Sprint("Det of ", n, " ones moved on"), got, e, proof.Whole(proof.Sign(n-1)))
	}
}

func TestMostRows(t *testing.T) { // P9.1, P9.2
	d, ok := proof.Dice(11), proof.Must[api.M](t)
	for _, r := range []int{1, 7, most - 1, most} {
		m := ok(gmat.Mul(stairs(&d, most, r), ok(gmat.Trans(stairs(&d, most, r)))))
		rank, e := gdet.Rank(m)
		proof.Taken(t, fmt.Sprint("Rank of ", r, " times ", r), rank, e, r)
	}
	// From row k on all is 0.
	for _, k := range []int{0, 5, most - 1, most} {
		m := placed(most, same, func(i int) complex128 {
			if i < k {
				return 1 + 2i
			}
			return 0
		})
		want := []api.Z{proof.Z(1)}
		for i := range most {
			next := api.Z{}
			if i < k {
				next = zint.Mul(want[i], proof.Z(5))
			}
			want = append(want, next)
		}
		got, e := gdet.Minors(m.Whole())
		proof.Taken(t, fmt.Sprint("Minors of ", k, " rows and noughts"), got, e, want)
		all, e := gdet.Independent(m.Whole())
		proof.Taken(t, fmt.Sprint("Independent of ", k, " rows and noughts"), all, e, k == most)
	}
}

func TestMostOfAdjugate(t *testing.T) { // P9.3: of twos on the diagonal, some of them 0
	for _, noughts := range [][]int{nil, {0}, {most / 2}, {most - 1}, {0, 1}, {most - 2, most - 1}, {3, 5, 60}} {
		twos := placed(most, same, func(i int) complex128 { return 2 })
		for _, i := range noughts {
			twos[i][i] = 0
		}
		want := make(api.M, most)
		for i := range want {
			want[i] = make([]api.G, most)
			if len(noughts) == 0 {
				want[i][i].Re = proof.Power2(most - 1)
			}
		}
		if len(noughts) == 1 {
			want[noughts[0]][noughts[0]].Re = proof.Power2(most - 1)
		}
		got, e := gdet.Adjugate(twos.Whole())
		proof.Taken(t, fmt.Sprint("Adjugate with noughts at ", noughts), got, e, want)
		got, e = gdet.Inverse(twos.Whole())
		proof.Refused(t, fmt.Sprint("Inverse with noughts at ", noughts), got, e, api.ErrNone)
	}
}

// chained tells ones on the diagonal with i to the right of each.
func chained() api.M {
	m := placed(most, same, one).Whole()
	for i := range most - 1 {
		m[i][i+1] = g(0, 1)
	}
	return m
}

func TestMostOfInverse(t *testing.T) { // P9.3
	want := placed(most, same, one).Whole()
	for i := range most {
		for j := i + 1; j < most; j++ {
			want[i][j] = gint.Turn(g(1, 0), i-j)
		}
	}
	got, e := gdet.Inverse(chained())
	proof.Taken(t, "Inverse", got, e, want)
}

func TestMostOfSolve(t *testing.T) { // P9.4
	x := make([]api.G, most)
	for i := range x {
		x[i] = g(int64(i), 7)
	}
	for n := most - 2; n <= most; n++ {
		m := chained()[:n]
		v := proof.Must[[]api.G](t)(gmat.Times(x[:n], m))
		got, e := gdet.Solve(m, v)
		proof.Taken(t, fmt.Sprint("Solve of ", n, " rows"), got, e, rationals(x[:n]))
		v[most-1] = gint.Add(v[most-1], g(0, 1))
		got, e = gdet.Solve(m, v)
		if n < most {
			proof.Refused(t, fmt.Sprint("Solve of ", n, " rows"), got, e, api.ErrNone)
		}
		got, e = gdet.Solve(append(m[:n-1:n-1], m[0]), v)
		proof.Refused(t, fmt.Sprint("Solve of ", n, " rows, the last of which is the first"), got, e, api.ErrDependent)
	}
}
