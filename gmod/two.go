package gmod

import (
	"slices"

	"tessel/api"
	"tessel/ghnf"
	"tessel/gint"
	"tessel/gmat"
	"tessel/gsmith"
)

// kind is what two modules make.
type kind int

const (
	sum kind = iota
	meet
)

// ofTwo tells the form of what two modules make.
func ofTwo(k kind, a, b api.M) (api.M, api.Errno) {
	if !fit(a, b) {
		return nil, api.ErrShape
	}
	var made func(a, b api.M) api.M
	switch k {
	case sum:
		made = added
	case meet:
		made = met
	}
	return ghnf.Form(made(a, b))
}

// fit tells whether both matrices are good, and their modules may be of one width.
func fit(a, b api.M) bool {
	high, wide, e := gmat.Size(a)
	otherHigh, otherWide, f := gmat.Size(b)
	return e == api.OK && f == api.OK && (high == 0 || otherHigh == 0 || wide == otherWide)
}

// added tells rows that make all sums.
func added(a, b api.M) api.M {
	// All rows together may be too many for one matrix. Those of two forms with pivots in one half of the columns never are.
	leftA, rightA := parted(a)
	leftB, rightB := parted(b)
	left, more := parted(slices.Concat(leftA, leftB))
	_, right := parted(slices.Concat(rightA, rightB))
	_, right = parted(slices.Concat(more, right))
	return slices.Concat(left, right)
}

// parted tells the rows of a module's form: those with pivots in the first half of all columns that there may be, and the others.
func parted(m api.M) (left, right api.M) {
	form, _ := ghnf.Form(m)
	pivots, _ := ghnf.Pivots(form)
	k, _ := slices.BinarySearch(pivots, api.MaxSize/2)
	return form[:k], form[k:]
}

// met tells rows that make all that is a member of both.
func met(a, b api.M) api.M {
	b, _ = ghnf.Form(b)
	if len(b) == 0 {
		return nil
	}
	// A vector is a member of b's just if v makes of it multiples of the factors, each in its column, and 0 in the columns behind them.
	_, d, v, _ := gsmith.Smith(b)
	last := d[len(b)-1][len(b)-1]
	scaled := make(api.M, len(v))
	for i, row := range v {
		for j, x := range row[:len(b)] {
			// All factors divide the last one: scaled so, each column must have multiples of that.
			times, _ := gint.Exact(last, d[j][j])
			scaled[i] = append(scaled[i], gint.Mul(x, times))
		}
	}
	return membersTo(last, membersTo(api.G{}, a, behind(v, len(b))), scaled)
}

// membersTo tells rows that make all members of a's module of which m makes multiples of a number.
func membersTo(number api.G, a, m api.M) api.M {
	if len(a) == 0 {
		return nil
	}
	images, _ := gmat.Mul(a, m)
	members, _ := Image(listsTo(number, images), a)
	return members
}
