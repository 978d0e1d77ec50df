package gsmith

import (
	"tessel/api"
	"tessel/gint"
)

// bringToDiagonal leaves numbers on the matrix's diagonal alone: those that are not 0 first, in the first quadrant.
func (s side) bringToDiagonal() {
	rows, columns := s, s.turned()
passes:
	for {
		// Where a pass doesn't clear a line and its column for good, it leaves there on the diagonal a proper divisor of what stood there: so one pass is the last.
		for _, toForm := range []func(){rows.toForm, columns.toForm} {
			toForm()
			if s.isDiagonal() {
				break passes
			}
		}
	}
}

// isDiagonal tells whether the matrix is 0 but on its diagonal.
func (s side) isDiagonal() bool {
	for i := range s.lines {
		for j := range s.own {
			if i != j && !isZero(*s.at(i, j)) {
				return false
			}
		}
	}
	return true
}

// toForm brings the lines to Hermite form, one after the other, so that numbers stay about as long as the determinants that they are made of.
func (s side) toForm() {
	for i := range s.lines {
		s.enter(i)
		s.settle(i + 1)
	}
}

// enter brings line i to its place among those ahead of it, which are in Hermite form.
func (s side) enter(i int) {
	place := 0
	for ; place < i && s.pivot(place) <= s.pivot(i); place++ {
		c := s.pivot(place)
		// Mostly the pivot divides: to take its line away is far less than to make two new ones.
		s.reduce(i, place, c)
		if !isZero(*s.at(i, c)) {
			s.divide(place, i, c)
		}
	}
	s.upright(i, s.pivot(i))
	for ; i > place; i-- {
		s.exchange(i, i-1)
	}
}

// settle reduces each of the first lines by those behind it: the last ones first, which those ahead are reduced by.
func (s side) settle(count int) {
	pivots := make([]int, count)
	for i := range pivots {
		pivots[i] = s.pivot(i)
	}
	for i := count - 1; i >= 0; i-- {
		for j := i + 1; j < count; j++ {
			s.reduce(i, j, pivots[j])
		}
	}
}

// chain makes each number on the diagonal divide the next one.
func (s side) chain() {
	for j := range min(s.lines, s.own) {
		for i := range j {
			if _, e := gint.Exact(*s.at(j, j), *s.at(i, i)); e == api.ErrInexact {
				s.pair(i, j)
			}
		}
	}
}

// pair makes of the diagonal's numbers i and j their greatest common divisor and their least common multiple.
func (s side) pair(i, j int) {
	columns := s.turned()
	// Number j is laid into column i too, where rows find divisors.
	columns.take(i, j, gint.From(-1, 0))
	s.divide(i, j, i)
	columns.reduce(j, i, i)
	s.upright(j, j)
}
