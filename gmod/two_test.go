package gmod_test

import (
	"fmt"
	"slices"
	"testing"

	"tessel/api"
	"tessel/ghnf"
	"tessel/gmat"
	"tessel/gmod"
	"tessel/proof"
)

func TestNumbers(t *testing.T) { // P12.1, P12.3: modules of one number: of all its multiples
	square := proof.Square(4)
	for _, x := range square {
		for _, y := range square {
			k := pair{rows{{1}}.Whole(), proof.Vector(x), proof.Vector(y), rows{{x}}.Whole(), rows{{y}}.Whole()}
			k.holds(t)
			is, e := gmod.Contains(k.a, k.b)
			proof.Taken(t, fmt.Sprint("Contains of ", x, " and ", y), is, e, y == 0 || x != 0 && proof.Divides(x, y))
			divisor, multiple := proof.Gcd(x, y), complex128(0)
			for _, z := range square {
				// The least multiple that is within the square, if there is one.
				if z != 0 && x*y != 0 && proof.Divides(x, z) && proof.Divides(y, z) && (multiple == 0 || proof.Norm(z) < proof.Norm(multiple)) {
					multiple = proof.Associate(z)
				}
			}
			both, e := gmod.Sum(k.a, k.b)
			proof.Taken(t, fmt.Sprint("Sum of ", x, " and ", y), both, e, form(rows{{divisor}}.Whole()))
			if both, e = gmod.Meet(k.a, k.b); multiple != 0 {
				proof.Taken(t, fmt.Sprint("Meet of ", x, " and ", y), both, e, rows{{multiple}}.Whole())
			}
		}
	}
}

// kinds tell what known modules are made of: numbers for the multiples, and for the steps that mix rows.
func kinds(d *proof.Dice) [][2]func() api.G {
	unit := func() api.G { return proof.Whole(d.Small(1)) }
	small := func() api.G { return proof.Whole(d.Small(3)) }
	power := func() api.G {
		return []api.G{g(1, 0), g(1, 1), g(0, 2), g(-4, 0), g(8, 8), g(64, 0), g(3, 0), {}}[d.Next(8)]
	}
	long := func() api.G { return d.G(3) }
	return [][2]func() api.G{{unit, unit}, {small, small}, {power, small}, {power, long}, {small, long}, {long, small}, {long, long}}
}

// base tells as many rows of such numbers as are wanted, all independent.
func base(d *proof.Dice, rank, width int, number func() api.G) api.M {
	for {
		var m api.M
		for range rank {
			v := make([]api.G, width)
			for j := range v {
				v[j] = number()
			}
			m = append(m, v)
		}
		if len(form(m)) == rank {
			return m
		}
	}
}

func TestKnownPairs(t *testing.T) { // P12.1, P12.3: of pairs of which it is known what they make
	d, ends := proof.Dice(1), map[bool]int{}
	for _, kind := range kinds(&d) {
		for width := 1; width <= 5; width++ {
			for rank := 1; rank <= width; rank++ {
				for _, inside := range []bool{false, true} {
					k := paired(&d, base(&d, rank, width, kind[1]), kind[0], kind[1], inside)
					k.holds(t)
					k.turned().holds(t)
					pair{k.base, k.p, k.q, proof.Longer(k.a), proof.Longer(k.b)}.holds(t)
					pair{k.base, k.p, k.p, k.a, form(k.a)}.holds(t)
					_, told := k.quotient()
					ends[told]++
				}
			}
		}
	}
	if ends[true] < 50 || ends[false] < 50 {
		t.Errorf("how often Quotient is told: %v", ends)
	}
}

func TestSmallPairs(t *testing.T) { // P12.1: of small matrices: as the form of all rows tells, and determinants
	d, ends, heights := proof.Dice(2), map[bool]int{}, map[int]int{}
	widths := map[int][]rows{}
	for _, a := range append(append(proof.Samples(), proof.Squares()...), proof.Flags()[300:340]...) {
		widths[a.Width()] = append(widths[a.Width()], a)
	}
	for width := range 6 {
		for _, a := range widths[width] {
			for range 5 {
				b := widths[width][d.Next(len(widths[width]))]
				what := fmt.Sprint(" of ", a, " and ", b)
				both, e := gmod.Sum(a.Whole(), b.Whole())
				proof.Taken(t, "Sum"+what, both, e, form(slices.Concat(a.Whole(), b.Whole())))
				both, e = gmod.Meet(a.Whole(), b.Whole())
				proof.Taken(t, "Meet"+what, both, e, common(a.Whole(), b.Whole()))
				heights[len(both)]++
				if len(a)*a.Width() > 9 || len(b)*b.Width() > 9 {
					continue // their determinants take too long
				}
				want := a.Contains(b)
				is, e := gmod.Contains(a.Whole(), b.Whole())
				proof.Taken(t, "Contains"+what, is, e, want)
				ends[want]++
			}
		}
	}
	if ends[true] < 100 || ends[false] < 100 || heights[0] < 50 || heights[1] < 50 || heights[2] < 50 || heights[3] < 50 {
		t.Errorf("how often Contains ends so: %v; how many rows Meet has: %v", ends, heights)
	}
}

func TestMembers(t *testing.T) { // P12.1: the document's words, vector by vector
	d, ends := proof.Dice(3), map[bool]int{}
	for k := range 60 {
		width := 1 + k%2
		a, b := d.Rows(1+d.Next(2), width, 2).Whole(), d.Rows(1+d.Next(2), width, 2).Whole()
		meet, e := gmod.Meet(a, b)
		sum, f := gmod.Sum(a, b)
		contains, h := gmod.Contains(a, b)
		if e != api.OK || f != api.OK || h != api.OK {
			t.Errorf("refused with errors %d, %d, %d", e, f, h)
		}
		for _, v := range vectors(width, 7-2*width) {
			both := isMember(a, v) && isMember(b, v)
			ends[both]++
			if isMember(meet, v) != both {
				t.Errorf("Meet of %s: %s: of %s one has another mind", proof.Told(a, b), proof.Told(meet), proof.Told(api.M{v}))
			}
			if (isMember(a, v) || isMember(b, v)) && !isMember(sum, v) || contains && isMember(b, v) && !isMember(a, v) {
				t.Errorf("Sum, Contains of %s: %s, %v: without %s", proof.Told(a, b), proof.Told(sum), contains, proof.Told(api.M{v}))
			}
		}
		for _, row := range b {
			if contains && !isMember(a, row) {
				t.Errorf("Contains of %s", proof.Told(a, b))
			}
		}
	}
	if ends[true] < 1000 || ends[false] < 1000 {
		t.Errorf("how often a vector is of both: %v", ends)
	}
}

func TestCounted(t *testing.T) { // P12.3: so many members there are, counted by what is left of them
	d := proof.Dice(4)
	for k := range 40 {
		width := 1 + k%2
		small := func() api.G { return proof.Whole(d.Small(1)) }
		p := paired(&d, base(&d, 1+d.Next(width), width, small), func() api.G { return []api.G{g(1, 0), g(1, 1), g(0, 2), g(1, 2)}[d.Next(4)] }, small, true)
		whole, rests := form(p.a), map[string]bool{}
		for _, x := range vectors(len(whole), 3) {
			v := proof.Must[[]api.G](t)(gmat.Times(x, whole))
			rests[proof.Show(proof.Must[[]api.G](t)(ghnf.Rest(p.b, v)))] = true
		}
		count, e := gmod.Quotient(p.a, p.b)
		proof.Taken(t, "Quotient of "+proof.Told(p.a, p.b), count, e, proof.Z(int64(len(rests))))
	}
}
