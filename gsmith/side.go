package gsmith

import (
	"tessel/api"
	"tessel/gint"
	"tessel/gmat"
)

// side is a table seen by its rows or, turned, by its columns: these are its lines. The table is a matrix with ones beside it and below, where all that is done to its rows and columns leaves its trace: what stands beside it, times the first matrix, times what stands below is the matrix that it has become.
type side struct {
	numbers []api.G
	// down leads from a line to the next one, along from a number to the next one of its line.
	down, along int
	// lines tells how many there are, own how many numbers of each are the matrix's.
	lines, own int
}

// bordered makes the table of a good matrix, in memory of its own, and tells its rows' side.
func bordered(m api.M) side {
	high, wide, _ := gmat.Size(m)
	n := high + wide
	rows := side{numbers: make([]api.G, n*n), down: n, along: 1, lines: high, own: wide}
	for i, row := range m {
		for j, x := range row {
			*rows.at(i, j) = gint.Add(x, api.G{})
		}
	}
	rows.layOnes()
	rows.turned().layOnes()
	return rows
}

// turned tells the other side: the transpose, in the same memory.
func (s side) turned() side {
	return side{numbers: s.numbers, down: s.along, along: s.down, lines: s.own, own: s.lines}
}

// layOnes lays them behind the lines' own numbers.
func (s side) layOnes() {
	for i := range s.lines {
		*s.at(i, s.own+i) = gint.From(1, 0)
	}
}

// at is the place of number j of line i.
func (s side) at(i, j int) *api.G { return &s.numbers[i*s.down+j*s.along] }

// long tells how many numbers a line has.
func (s side) long() int { return s.own + s.lines }

// part tells so many numbers of so many lines, from a line and a place in it on.
func (s side) part(line, place, count, width int) api.M {
	m := make(api.M, count)
	for i := range m {
		m[i] = make([]api.G, width)
		for j := range m[i] {
			m[i][j] = *s.at(line+i, place+j)
		}
	}
	return m
}

// pivot tells the place of a line's first number that is not 0. There is one: lines that began with ones behind them stay independent.
func (s side) pivot(i int) int {
	c := 0
	for isZero(*s.at(i, c)) {
		c++
	}
	return c
}

// exchange exchanges two lines.
func (s side) exchange(i, j int) {
	for k := range s.long() {
		x, y := s.at(i, k), s.at(j, k)
		*x, *y = *y, *x
	}
}

// upright turns a line by the unit that brings its number at place c into the first quadrant.
func (s side) upright(i, c int) {
	_, turns := gint.Canon(*s.at(i, c))
	for k := range s.long() {
		*s.at(i, k) = gint.Turn(*s.at(i, k), turns)
	}
}

// take takes line j from line i, q times.
func (s side) take(i, j int, q api.G) {
	for k := range s.long() {
		*s.at(i, k) = gint.Sub(*s.at(i, k), gint.Mul(q, *s.at(j, k)))
	}
}

// reduce takes line j from line i so many times that line i's number at place c is a residue by line j's.
func (s side) reduce(i, j, c int) {
	q, _, _ := gint.RoundDiv(*s.at(i, c), *s.at(j, c))
	if !isZero(q) {
		s.take(i, j, q)
	}
}

// divide leaves the greatest common divisor of both lines' numbers at place c in line i, and 0 in line j.
func (s side) divide(i, j, c int) {
	divisor, x, y := gint.Xgcd(*s.at(i, c), *s.at(j, c))
	a, _ := gint.Exact(*s.at(i, c), divisor)
	b, _ := gint.Exact(*s.at(j, c), divisor)
	for k := range s.long() {
		u, v := s.at(i, k), s.at(j, k)
		*u, *v = gint.Add(gint.Mul(x, *u), gint.Mul(y, *v)), gint.Sub(gint.Mul(a, *v), gint.Mul(b, *u))
	}
}

func isZero(a api.G) bool { return gint.Equal(a, api.G{}) }
