package gmod_test

import (
	"fmt"
	"testing"

	"tessel/api"
	"tessel/gmat"
	"tessel/gmod"
	"tessel/proof"
)

func TestClosure(t *testing.T) { // P12.3: of small matrices: of the same rank, and the divisor of all determinants of so many rows is 1
	ranks := map[int]int{}
	for _, list := range [][]rows{proof.Samples(), proof.Squares(), proof.Flags(), proof.Tiny()[:1000]} {
		for _, a := range list {
			if len(a)*a.Width() > 16 {
				continue // their determinants take too long
			}
			closed := proof.Must[api.M](t)(gmod.Closure(a.Whole()))
			h, rank := proof.Seen(closed), a.Rank()
			ranks[rank]++
			if len(h) != rank || h.Rank() != rank || proof.Gcd(h.Dets(rank)...) != 1 || !h.Contains(a) {
				t.Errorf("Closure of %v: %v", a, h)
			}
			proof.Is(t, fmt.Sprint("Closure of ", a, ": its form"), closed, form(closed))
			for _, m := range a.Forms() {
				got, e := gmod.Closure(m)
				proof.Taken(t, fmt.Sprint("Closure of ", a), got, e, closed)
			}
		}
	}
	if ranks[0] < 5 || ranks[1] < 50 || ranks[2] < 50 || ranks[3] < 50 || ranks[4] < 5 {
		t.Errorf("how often a rank comes: %v", ranks)
	}
}

func TestClosureByMultiples(t *testing.T) { // P12.3: the document's words, vector by vector: a multiple is a member just if the rank stays
	d, ends := proof.Dice(10), map[bool]int{}
	for k := range 40 {
		width := 1 + k%2
		a := d.Rows(1, 1, 2).Times(d.Rows(1, width, 2))
		closed := proof.Must[api.M](t)(gmod.Closure(a.Whole()))
		for _, v := range vectors(width, 3) {
			want := append(a.Copied(), proof.Seen(api.M{v})...).Rank() == a.Rank()
			ends[want]++
			if isMember(closed, v) != want {
				t.Errorf("Closure of %v: %s: of %s a multiple is a member: %v", a, proof.Told(closed), proof.Told(api.M{v}), want)
			}
		}
	}
	if ends[true] < 500 || ends[false] < 500 {
		t.Errorf("how often a multiple is a member: %v", ends)
	}
}

func TestKnownClosures(t *testing.T) { // P12.3: of rows that are made of such as are closed
	d := proof.Dice(11)
	for _, kind := range kinds(&d) {
		for width := 1; width <= 6; width++ {
			for rank := 1; rank <= width; rank++ {
				isClosure(t, &d, rank, width, kind[0], kind[1])
			}
		}
	}
}

// isClosure tells where Closure isn't known: of rows that others make, which are some of those with a unit for determinant.
func isClosure(t *testing.T, d *proof.Dice, rank, width int, number, steps func() api.G) {
	t.Helper()
	ok := proof.Must[api.M](t)
	closed := d.Mixed(ok(gmat.Ident(width)), steps)[:rank]
	m := ok(gmat.Mul(base(d, rank, rank, number), closed))
	for range min(d.Next(3), api.MaxSize-rank) {
		m = append(m, make([]api.G, width))
	}
	m = d.Mixed(m, steps)
	got, e := gmod.Closure(m)
	proof.Taken(t, "Closure of "+proof.Told(m), got, e, form(closed))
	got, e = gmod.Closure(closed)
	proof.Taken(t, "Closure of "+proof.Told(closed), got, e, form(closed))
}
