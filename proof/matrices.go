package proof

import (
	"slices"
	"strconv"
	"strings"

	"tessel/api"
	"tessel/gint"
)

// Vector tells the machine's numbers as the program has them.
func Vector(numbers ...complex128) []api.G {
	list := make([]api.G, len(numbers))
	for i, x := range numbers {
		list[i] = Whole(x)
	}
	return list
}

// Matrix tells the machine's rows as the program has them.
func Matrix(rows ...[]complex128) api.M {
	m := make(api.M, len(rows))
	for i, row := range rows {
		m[i] = Vector(row...)
	}
	return m
}

// Blank tells a matrix of noughts.
func Blank(rows, cols int) api.M {
	m := make(api.M, rows)
	for i := range m {
		m[i] = make([]api.G, cols)
	}
	return m
}

// Crooked are matrices that are not good: rows of several lengths, more rows or columns than there may be.
func Crooked() []api.M {
	var list []api.M
	for _, lengths := range [][]int{
		{1, 0}, {0, 1}, {1, 2}, {2, 1}, {2, 2, 1}, {2, 1, 2}, {0, 0, 3}, {3, 0, 0},
		{api.MaxSize + 1}, {api.MaxSize + 1, api.MaxSize + 1}, {0, api.MaxSize + 1}, {api.MaxSize, api.MaxSize + 1}, {1 << 10},
		make([]int, api.MaxSize+1), append(make([]int, api.MaxSize-1), 1), append(make([]int, api.MaxSize), 1), make([]int, 1<<10),
	} {
		list = append(list, ofLengths(lengths))
	}
	for _, cols := range []int{1, api.MaxSize, api.MaxSize + 1} {
		list = append(list, ofLengths(slices.Repeat([]int{cols}, api.MaxSize+1)))
	}
	return list
}

// ofLengths tells rows of these lengths.
func ofLengths(lengths []int) api.M {
	var m api.M
	for _, n := range lengths {
		row := make([]api.G, n)
		for j := range row {
			row[j] = G(int64(j), 1)
		}
		m = append(m, row)
	}
	return m
}

// Small tells a machine's number whose parts are at most n in amount.
func (d *Dice) Small(n int) complex128 {
	return complex(float64(d.Next(2*n+1)-n), float64(d.Next(2*n+1)-n))
}

// Rows tells rows of such numbers.
func (d *Dice) Rows(rows, cols, n int) Rows {
	list := make(Rows, rows)
	for i := range list {
		list[i] = make([]complex128, cols)
		for j := range list[i] {
			list[i][j] = d.Small(n)
		}
	}
	return list
}

// Vector tells Gaussian integers of at most size digits.
func (d *Dice) Vector(n, size int) []api.G {
	list := make([]api.G, n)
	for i := range list {
		list[i] = d.G(size)
	}
	return list
}

// M tells a matrix of such numbers.
func (d *Dice) M(rows, cols, size int) api.M {
	m := make(api.M, rows)
	for i := range m {
		m[i] = d.Vector(cols, size)
	}
	return m
}

// Kinds are Gaussian integers of all kinds and forms.
func Kinds() []api.G {
	d := Dice(9)
	return append(GNoughts()[15:], G(1, 0), G(0, -1), G(-7, 3), Longer(G(0, 5)), api.G{Re: Power2(64), Im: Z(-1)}, d.G(5), d.G(5))
}

// Matrices are ones of all kinds, and such as are not good.
func Matrices() []api.M {
	d, list := Dice(10), Kinds()
	all := []api.M{nil, {}, {{}}, {nil, {}}, {list[:2], list[2:4]}, {list[3:6], list[7:10], list[4:7]}, {{list[0]}, {list[7]}, {list[9]}}, {list[5:]}}
	for _, size := range [][2]int{{1, 1}, {1, 2}, {2, 1}, {2, 2}, {2, 3}, {3, 3}} {
		all = append(all, d.M(size[0], size[1], 4))
	}
	return append(all, Crooked()[:4]...)
}

// Modules are matrices of all kinds, such as are diagonal or in Hermite form among them, and such as are not good.
func Modules() []api.M {
	nought, two, d := Longer(G(0, 0)), Longer(G(2, 0)), Dice(11)
	return append(Matrices(),
		api.M{{two, nought}, {nought, Longer(G(6, 0))}}, api.M{{two, nought}, {nought, G(0, -3)}}, api.M{{G(1, 0), nought}, {nought, G(1, 0)}}, api.M{{G(1, 0), d.G(5)}, {nought, two}},
		api.M{{nought}}, api.M{{G(0, -1)}}, api.M{{G(5, 3)}, {nought}}, api.M{{nought, nought, two}}, api.M{{nought, nought}, {G(3, 0), d.G(2)}, {nought, two}}, d.M(3, 4, 2), d.M(4, 2, 2),
	)
}

// Vectors are ones of all kinds.
func Vectors() [][]api.G {
	list := Kinds()
	return [][]api.G{nil, {}, list[:1], list[6:7], list[10:], list[1:3], list[7:9], list[5:8], {list[0], list[6]}, list[:3], list[5:]}
}

// Longs are matrices of long numbers, and of numbers with very many noughts at the top.
func Longs() []api.M {
	long := api.Z{Neg: true, Mag: slices.Repeat([]uint32{1<<32 - 1, 7, 1 << 31}, 100)}
	nought := api.Z{Neg: true, Mag: make([]uint32, 1<<16)}
	three := api.Z{Neg: true, Mag: append([]uint32{3}, make([]uint32, 1<<16)...)}
	x, y, zero := api.G{Re: long, Im: three}, api.G{Re: three, Im: nought}, api.G{Re: nought, Im: nought}
	return []api.M{{{x, y}, {zero, x}}, {{zero, zero}, {y, y}}, {{x}}, {{x}, {zero}, {y}}, {{x, x}, {x, x}}, {{zero, x}, {y, zero}}, {{x}, {zero, y}}, nil}
}

// LongVectors are the first rows of those.
func LongVectors() [][]api.G {
	var list [][]api.G
	for _, m := range Longs()[:4] {
		list = append(list, m[0])
	}
	return list
}

// Told tells matrices for one who reads a fault: of large ones the beginning.
func Told(matrices ...api.M) string {
	const most = 8
	var texts []string
	for _, m := range matrices {
		text := strconv.Itoa(len(m)) + " rows:"
		for _, row := range m[:min(len(m), most)] {
			for _, x := range row[:min(len(row), most)] {
				text += " " + gint.Text(x)
			}
			text += ";"
		}
		texts = append(texts, text)
	}
	return strings.Join(texts, " and ")
}
