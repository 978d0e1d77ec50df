package gmat_test

import (
	"fmt"
	"math"
	"testing"

	"tessel/api"
	"tessel/gint"
	"tessel/gmat"
	"tessel/proof"
)

func TestAddRow(t *testing.T) { // P8.2
	for _, a := range samples() {
		for _, i := range places(a.rows) {
			for _, j := range places(a.rows) {
				for _, q := range []complex128{0, 1, -1i, 5 - 2i} {
					want := a.Copied()
					for k := range want[i] {
						want[i][k] += q * a.rows[j][k]
					}
					for k, m := range a.forms {
						got, e := gmat.AddRow(m, i, j, proof.Forms(proof.Whole(q))[3-k])
						what := fmt.Sprintf("AddRow(%s, %d, %d, %v)", show(m), i, j, q)
						if i == j {
							proof.Refused(t, what, got, e, api.ErrArg)
						} else {
							taken(t, what, got, e, want.Whole())
						}
					}
				}
			}
		}
	}
}

func TestSwap(t *testing.T) { // P8.2
	for _, a := range samples() {
		for _, i := range places(a.rows) {
			for _, j := range places(a.rows) {
				want := a.Copied()
				want[i], want[j] = a.rows[j], a.rows[i]
				m := a.forms[(i+j)%3]
				got, e := gmat.Swap(m, i, j)
				taken(t, fmt.Sprintf("Swap(%s, %d, %d)", show(m), i, j), got, e, want.Whole())
			}
		}
	}
}

func TestTurn(t *testing.T) { // P8.2
	units := []complex128{1, 1i, -1, -1i}
	for _, a := range samples() {
		for _, i := range places(a.rows) {
			for k, unit := range units {
				want := a.Copied()
				for j := range want[i] {
					want[i][j] *= unit
				}
				for l, whole := range []int{k, k + 4, k - 4, k + 400, k - 4000, 1<<62 + k, k - 1<<62, math.MaxInt - 3 + k, math.MinInt + k} {
					m := a.forms[l%3]
					got, e := gmat.Turn(m, i, whole)
					taken(t, fmt.Sprintf("Turn(%s, %d, %d)", show(m), i, whole), got, e, want.Whole())
				}
			}
		}
	}
}

// noRows are numbers that no row of the matrix has.
func noRows(a rows) []int {
	return []int{-1, -2, -len(a) - 1, len(a), len(a) + 1, api.MaxSize, 1 << 32, -1 << 32, math.MaxInt, math.MinInt}
}

func TestNoRow(t *testing.T) { // P8.2: ErrArg
	for _, a := range samples() {
		m := a.forms[0]
		for _, wrong := range noRows(a.rows) {
			what := fmt.Sprintf(" of row %d of %s", wrong, show(m))
			for _, other := range []int{0, len(a.rows) - 1, wrong, -1, math.MaxInt} {
				for _, q := range []api.G{{}, g(2, 1)} {
					got, e := gmat.AddRow(m, wrong, other, q)
					proof.Refused(t, "AddRow to"+what, got, e, api.ErrArg)
					got, e = gmat.AddRow(m, other, wrong, q)
					proof.Refused(t, "AddRow"+what, got, e, api.ErrArg)
				}
				got, e := gmat.Swap(m, wrong, other)
				proof.Refused(t, "Swap"+what, got, e, api.ErrArg)
				got, e = gmat.Swap(m, other, wrong)
				proof.Refused(t, "Swap"+what, got, e, api.ErrArg)
			}
			for _, k := range []int{0, 1, math.MinInt} {
				got, e := gmat.Turn(m, wrong, k)
				proof.Refused(t, "Turn"+what, got, e, api.ErrArg)
			}
		}
	}
}

func TestRowsOfLong(t *testing.T) { // P8.2
	for _, a := range longs(3, 2) {
		for i := range a {
			j, q := (i+1)%3, longs(1, 1)[i+3][0][0]
			each(t, "AddRow", part(gmat.AddRow(a, i, j, q)), 3, 2, func(k, l int) api.G {
				if k == i {
					return sum(a[i][l], times(q, a[j][l]))
				}
				return proof.Canon(a[k][l])
			})
			each(t, "Swap", part(gmat.Swap(a, i, j)), 3, 2, func(k, l int) api.G {
				return proof.Canon(a[map[int]int{i: j, j: i, 3 - i - j: k}[k]][l])
			})
			each(t, "Turn", part(gmat.Turn(a, i, i+1)), 3, 2, func(k, l int) api.G {
				if k == i {
					return gint.Turn(a[k][l], i+1)
				}
				return proof.Canon(a[k][l])
			})
		}
	}
}
