package gdet_test

import (
	"fmt"
	"testing"

	"tessel/api"
	"tessel/gdet"
	"tessel/gfrac"
	"tessel/gmat"
	"tessel/proof"
)

// goals are vectors of a matrix's width: of its module, of its rows' space, and any.
func goals(d *proof.Dice, a rows) [][]complex128 {
	list := [][]complex128{make([]complex128, a.Width()), d.Rows(1, a.Width(), 3)[0], d.Rows(1, a.Width(), 9)[0]}
	for range 2 {
		list = append(list, d.Rows(1, len(a), 2).Times(a)[0])
	}
	return append(list, a[0])
}

func TestSolve(t *testing.T) { // P9.4
	d, ends := proof.Dice(4), map[api.Errno]int{}
	for _, a := range append(proof.Samples(), proof.Squares()...) {
		if len(a) == 0 {
			continue
		}
		for _, v := range goals(&d, a) {
			// Of these rows each number of v's takes more than whole numbers.
			for _, b := range []rows{a, a.Scaled(2 + 1i)} {
				ends[solves(t, b, v)]++
			}
		}
	}
	if len(ends) != 3 || ends[api.OK] < 100 || ends[api.ErrNone] < 100 || ends[api.ErrDependent] < 100 {
		t.Errorf("how often it ends so: %v", ends)
	}
}

// solves tells where Solve isn't what determinants tell, and how it ends.
func solves(t *testing.T, a rows, v []complex128) api.Errno {
	t.Helper()
	want := api.OK
	if a.Rank() < len(a) {
		want = api.ErrDependent
	} else if append(a.Copied(), v).Rank() > len(a) {
		want = api.ErrNone
	}
	goal := rows{v}.Forms()
	for k, m := range a.Forms() {
		got, e := gdet.Solve(m, goal[(k+1)%3][0])
		what := fmt.Sprint("Solve ", a, v)
		if want == api.OK {
			proof.Taken(t, what, got, e, solution(a, v))
		} else {
			proof.Refused(t, what, got, e, want)
		}
	}
	return want
}

func TestSolveNoRows(t *testing.T) { // P9.4: any vector is taken
	for _, m := range []api.M{nil, {}} {
		for _, n := range []int{0, 1, 2, api.MaxSize, api.MaxSize + 1, 1000} {
			for _, nought := range proof.GNoughts() {
				v := make([]api.G, n)
				for j := range v {
					v[j] = nought
				}
				got, e := gdet.Solve(m, v)
				proof.Taken(t, fmt.Sprint("Solve of no rows and ", n, " noughts"), got, e, nil)
			}
			for _, place := range []int{0, n / 2, n - 1} {
				if n == 0 {
					break
				}
				v := make([]api.G, n)
				v[place] = g(0, -1)
				got, e := gdet.Solve(m, v)
				proof.Refused(t, fmt.Sprint("Solve of no rows and ", n, " numbers"), got, e, api.ErrNone)
			}
		}
	}
}

func TestSolveShape(t *testing.T) { // P9.4: ahead of rows that are dependent, and of what has no solution
	for _, a := range proof.Samples() {
		if len(a) == 0 {
			continue
		}
		for n := range 2*a.Width() + 2 {
			if n == a.Width() {
				continue
			}
			v := make([]api.G, n)
			got, e := gdet.Solve(a.Whole(), v)
			proof.Refused(t, fmt.Sprint("Solve ", a, " and ", n, " noughts"), got, e, api.ErrShape)
		}
	}
}

func TestSolveLong(t *testing.T) { // P9.4: the sum of the rows, each times its rational, is the vector
	d, ok := proof.Dice(5), proof.Must[[]api.C](t)
	for k := range 60 {
		n := 1 + k%5
		m, v := d.M(n, n, 4), d.Vector(n, 6)
		if is, _ := gdet.Independent(m); !is {
			continue
		}
		proof.Is(t, fmt.Sprintf("Solve of %s and %s", proof.Told(m), proof.Told(api.M{v})), made(t, ok(gdet.Solve(m, v)), m), rationals(proof.Canon(v)))
	}
	for range 60 {
		m := api.M{d.Vector(5, 3), d.Vector(5, 4), d.Vector(5, 5)}
		x := []api.G{d.G(4), d.G(5), d.G(6)}
		v := proof.Must[[]api.G](t)(gmat.Times(x, m))
		if is, _ := gdet.Independent(m); is {
			proof.Is(t, fmt.Sprintf("Solve of %s and a sum of its rows", proof.Told(m)), ok(gdet.Solve(m, v)), rationals(proof.Canon(x)))
		}
	}
	one := gfrac.Of(g(1, 0))
	proof.Is(t, "1 / 1", ok(gdet.Solve(api.M{{g(7, 1)}}, proof.Vector(7+1i))), []api.C{one})
}
