package proof

import "slices"

// Samples are matrices of all small sizes: without noughts and with many, of all ranks.
func Samples() []Rows {
	list := []Rows{nil, {{}}, {{}, {}}, {{}, {}, {}}}
	d := Dice(1)
	sparse := func(i, j int) complex128 {
		if d.Next(5) > 1 {
			return 0
		}
		return d.Small(2)
	}
	for height := 1; height <= 4; height++ {
		for width := 1; width <= 5; width++ {
			list = append(list, d.Rows(height, width, 9))
			for range 6 {
				list = append(list, d.Rows(height, width, 1), Made(height, width, sparse))
			}
			for r := range min(height, width) {
				list = append(list, d.Rows(height, r, 2).Times(d.Rows(r, width, 2)))
			}
		}
	}
	return list
}

// Squares are those of the samples that have as many rows as columns, and more of them.
func Squares() []Rows {
	list := slices.DeleteFunc(Samples(), func(a Rows) bool { return len(a) != a.Width() })
	d := Dice(2)
	for n := 2; n <= 5; n++ {
		for range 30 {
			list = append(list, Made(n, n, func(i, j int) complex128 { return d.Small(1) * complex(float64(d.Next(2)), 0) }))
		}
	}
	return list
}

// Tiny are all matrices of two rows and columns whose numbers have parts of at most 1 in amount.
func Tiny() []Rows {
	var list []Rows
	for _, x := range Lists(Square(1), 4) {
		list = append(list, Rows{{x[0].(complex128), x[1].(complex128)}, {x[2].(complex128), x[3].(complex128)}})
	}
	return list
}

// Flags are all matrices of three rows and columns of 0 and 1.
func Flags() []Rows {
	var list []Rows
	for k := range 1 << 9 {
		list = append(list, Made(3, 3, func(i, j int) complex128 { return complex(float64(k>>(3*i+j)&1), 0) }))
	}
	return list
}

// Unimodular tells n rows whose determinant is a unit, made of ones by steps on rows.
func (d *Dice) Unimodular(n int) Rows {
	units := []complex128{1, 1i, -1, -1i}
	a := Made(n, n, func(i, j int) complex128 {
		if i == j {
			return units[d.Next(4)]
		}
		return 0
	})
	for range 3 * n * min(n-1, 1) {
		i := d.Next(n)
		j := (i + 1 + d.Next(n-1)) % n
		q := d.Small(1)
		for k := range a[i] {
			a[i][k] += q * a[j][k]
		}
		l := d.Next(n)
		a[l], a[0] = a[0], a[l]
	}
	return a
}
