package gmod_test

import (
	"fmt"
	"testing"

	"tessel/api"
	"tessel/gint"
	"tessel/gmat"
	"tessel/gmod"
	"tessel/proof"
)

func TestScale(t *testing.T) { // P12.1: the members' multiples
	d := proof.Dice(5)
	for _, a := range proof.Samples() {
		for _, x := range []complex128{0, 1, -1i, 2 + 1i, d.Small(9)} {
			for _, m := range a.Forms() {
				got, e := gmod.Scale(m, proof.Whole(x))
				proof.Taken(t, fmt.Sprint("Scale of ", a, " by ", x), got, e, form(a.Scaled(x).Whole()))
			}
		}
		number := d.GNotZero(3)
		got, e := gmod.Scale(a.Whole(), number)
		what := "Scale of " + proof.Told(a.Whole()) + " by " + gint.Text(number)
		// A form's multiple lacks nothing of a form but units.
		numbers, h := []api.G{}, form(a.Whole())
		for range h {
			numbers = append(numbers, number)
		}
		proof.Taken(t, what, got, e, form(timesEach(h, numbers)))
	}
	m := rows{{2, 1i}, {0, 3}}.Whole()
	multiple := proof.Must[api.M](t)(gmod.Scale(m, g(1, 1)))
	for _, v := range vectors(2, 3) {
		part, want := make([]api.G, 2), true
		for j, x := range v {
			var e api.Errno
			part[j], e = gint.Exact(x, g(1, 1))
			want = want && e == api.OK
		}
		if got := isMember(multiple, v); got != (want && isMember(m, part)) {
			t.Errorf("Scale of %s: %s has %s: %v", proof.Told(m), proof.Told(multiple), proof.Told(api.M{v}), got)
		}
	}
}

func TestImage(t *testing.T) { // P12.2: of small matrices, and of long ones row by row
	d, heights := proof.Dice(6), map[int]int{}
	for k, a := range proof.Samples() {
		m := d.Rows(a.Width(), d.Next(5), 2)
		if k%3 == 0 && a.Width() > 0 {
			m = d.Rows(a.Width(), 1, 2).Times(d.Rows(1, 1+d.Next(4), 1))
		}
		want := form(a.Times(m).Whole())
		heights[len(want)]++
		for i, other := range m.Forms() {
			got, e := gmod.Image(a.Forms()[i], other)
			proof.Taken(t, fmt.Sprint("Image of ", a, " by ", m), got, e, want)
		}
	}
	if heights[0] < 20 || heights[1] < 20 || heights[2] < 20 || heights[3] < 10 {
		t.Errorf("how many rows Image has: %v", heights)
	}
	for k := range 60 {
		width := 1 + d.Next(4)
		a, m := d.M(1+d.Next(4), width, k%5), d.M(width, d.Next(5), k%4)
		var images api.M
		for _, row := range d.Mixed(form(a), func() api.G { return d.G(2) }) {
			images = append(images, proof.Must[[]api.G](t)(gmat.Times(row, m)))
		}
		got, e := gmod.Image(a, m)
		proof.Taken(t, "Image of "+proof.Told(a)+" by "+proof.Told(m), got, e, form(images))
	}
}

func TestImageOfNoRows(t *testing.T) { // P12.2: of 0 alone, whatever the matrix: of any that is good
	d := proof.Dice(7)
	for _, m := range []api.M{nil, {}, {{}}, make(api.M, api.MaxSize), d.M(1, 1, 2), d.M(3, 2, 1), d.M(2, api.MaxSize, 1), d.M(api.MaxSize, 2, 1)} {
		for _, none := range []api.M{nil, {}} {
			got, e := gmod.Image(none, m)
			proof.Taken(t, "Image of no rows by "+proof.Told(m), got, e, nil)
		}
		got, e := gmod.Image(proof.Blank(3, len(m)), m)
		proof.Taken(t, "Image of noughts by "+proof.Told(m), got, e, nil)
	}
}

func TestKernel(t *testing.T) { // P12.2: of small matrices: as the form of rows beside their places tells, and list by list
	d, heights := proof.Dice(8), map[int]int{}
	for _, list := range [][]rows{proof.Samples(), proof.Squares(), proof.Flags()} {
		for _, a := range list {
			want := zeros(a.Whole())
			heights[len(want)]++
			for _, m := range a.Forms() {
				got, e := gmod.Kernel(m)
				proof.Taken(t, fmt.Sprint("Kernel of ", a), got, e, want)
			}
		}
	}
	if heights[0] < 20 || heights[1] < 20 || heights[2] < 20 || heights[3] < 20 {
		t.Errorf("how many rows Kernel has: %v", heights)
	}
	for k := range 80 {
		a := d.Rows(1+k%2, 1+d.Next(2), 2)
		if k%3 > 0 {
			a = d.Rows(len(a), 1, 2).Times(d.Rows(1, a.Width(), 1))
		}
		kernel := proof.Must[api.M](t)(gmod.Kernel(a.Whole()))
		for _, x := range vectors(len(a), 3) {
			made := rows{proof.Seen(api.M{x})[0]}.Times(a)
			if is := proof.Alike(made.Whole(), proof.Blank(1, a.Width())); is != isMember(kernel, x) {
				t.Errorf("Kernel of %v: %s: %s makes %v", a, proof.Told(kernel), proof.Told(api.M{x}), made)
			}
		}
	}
}

func TestKnownKernels(t *testing.T) { // P12.2: where rows are made of those that are independent
	d := proof.Dice(9)
	for _, kind := range kinds(&d) {
		for rank := range 5 {
			for more := range 4 {
				isKernel(t, &d, rank, 1+d.Next(3)+rank, more, kind[0], kind[1])
			}
		}
	}
}

// isKernel tells where Kernel isn't known: of so many independent rows ahead, and more behind them that those make, all turned round.
func isKernel(t *testing.T, d *proof.Dice, rank, width, more int, number, steps func() api.G) {
	t.Helper()
	ok := proof.Must[api.M](t)
	m := base(d, rank, width, steps)
	var kernel api.M
	for i := range more {
		x := make([]api.G, rank)
		for j := range x {
			x[j] = number()
		}
		// The row less what it is made of is 0.
		list := make([]api.G, rank+more)
		list[rank+i] = g(1, 0)
		for j, y := range x {
			list[j] = gint.Neg(y)
		}
		kernel = append(kernel, list)
		row := make([]api.G, width)
		if rank > 0 {
			row = proof.Must[[]api.G](t)(gmat.Times(x, m[:rank]))
		}
		m = append(m, row)
	}
	for i := range len(m) / 2 {
		m = ok(gmat.Swap(m, i, len(m)-1-i))
		for _, list := range kernel {
			list[i], list[len(m)-1-i] = list[len(m)-1-i], list[i]
		}
	}
	got, e := gmod.Kernel(m)
	proof.Taken(t, "Kernel of "+proof.Told(m), got, e, form(kernel))
}
