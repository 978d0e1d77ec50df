package gmod_test

import (
	"fmt"
	"testing"

	"tessel/api"
	"tessel/gmat"
	"tessel/gmod"
	"tessel/proof"
)

const most = api.MaxSize

func TestMostRows(t *testing.T) { // P12.1, P12.3: of as many rows or columns as there may be: of both together more than that
	d := proof.Dice(20)
	one := func() api.G { return proof.Whole(d.Small(1)) }
	few := func() api.G { return []api.G{g(1, 0), g(1, 0), g(1, 1), g(2, 0), g(1, 2), {}}[d.Next(6)] }
	for _, size := range [][3]int{{most, most, 0}, {most - 1, most, 0}, {most/2 + 1, most, 0}, {most / 2, most/2 + 1, most/2 - 1}, {most / 2, most, most / 2}, {most/2 + 2, most/2 + 2, 0}} {
		wide, _ := gmat.Ident(size[1] - size[2])
		wide = d.Mixed(wide, one)
		m := proof.Blank(min(size[0], len(wide)), size[1])
		for i := range m {
			copy(m[i][size[2]:], wide[i])
		}
		k := paired(&d, m, few, one, false)
		k.holds(t)
		k = paired(&d, m, few, one, true)
		k.holds(t)
	}
}

func TestEachHalf(t *testing.T) { // P12.1: pivots on one side of the middle, on the other one, and on both, in one module and in both
	d := proof.Dice(21)
	all, _ := gmat.Ident(most)
	sides := [][2]int{{0, most / 2}, {most / 2, most}, {most/2 - 1, most/2 + 1}, {0, most}}
	for _, a := range sides {
		for _, b := range sides {
			k := pair{base: all, p: numbersWithin(&d, a), q: numbersWithin(&d, b)}
			got, e := gmod.Sum(timesEach(all, k.p), timesEach(all, k.q))
			proof.Taken(t, fmt.Sprint("Sum of rows ", a, " and ", b), got, e, k.sum())
		}
	}
}

// numbersWithin tells small numbers, and noughts outside of these places.
func numbersWithin(d *proof.Dice, places [2]int) []api.G {
	list := make([]api.G, most)
	for i := places[0]; i < places[1]; i++ {
		list[i] = g(0, int64(1+d.Next(3)))
	}
	return list
}

func TestMostNumbers(t *testing.T) { // P12.1: twos that rise in one module, and fall in the other one; and numbers that have little in common, which would grow very long if all that is made of them were kept
	d := proof.Dice(22)
	ones, _ := gmat.Ident(most)
	powers, others := pair{base: ones}, pair{base: ones}
	for i := range most {
		powers.p, powers.q = append(powers.p, api.G{Re: proof.Power2(i)}), append(powers.q, api.G{Im: proof.Power2(most - 1 - i)})
		others.p, others.q = append(others.p, d.GNotZero(1)), append(others.q, d.GNotZero(1))
	}
	for _, k := range []pair{powers, others} {
		k.a, k.b = timesEach(ones, k.p), timesEach(ones, k.q)
		k.holds(t)
	}
}

func TestMostOfMaps(t *testing.T) { // P12.2, P12.3
	d := proof.Dice(23)
	one := func() api.G { return proof.Whole(d.Small(1)) }
	for _, size := range [][3]int{{most / 2, most, most / 2}, {most, most, 0}, {1, 2, most - 1}, {0, most, most}, {5, 5, most - 5}} {
		isKernel(t, &d, size[0], size[1], size[2], one, one)
	}
	isClosure(t, &d, most, most, one, one)
	isClosure(t, &d, most/2, most, one, one)
	a, m := d.Rows(most, most, 1), d.Rows(most, most, 1)
	image, e := gmod.Image(a.Whole(), m.Whole())
	proof.Taken(t, "Image of most rows", image, e, form(a.Times(m).Whole()))
	image, e = gmod.Scale(a.Whole(), g(1, 1))
	proof.Taken(t, "Scale of most rows", image, e, form(a.Scaled(1+1i).Whole()))
	for height := range most + 1 {
		ones, _ := gmat.Ident(height)
		kernel, e := gmod.Kernel(make(api.M, height))
		proof.Taken(t, fmt.Sprint("Kernel of ", height, " rows without columns"), kernel, e, ones)
	}
}
