package ghnf_test

import (
	"slices"

	"tessel/api"
	"tessel/gint"
	"tessel/gres"
	"tessel/proof"
)

type rows = proof.Rows

func g(re, im int64) api.G { return proof.G(re, im) }

// isForm tells whether a matrix is in Hermite form, by the document's words.
func isForm(h rows) bool {
	last := -1
	for i, row := range h {
		c := slices.IndexFunc(row, func(x complex128) bool { return x != 0 })
		if c <= last || row[c] != proof.Associate(row[c]) {
			return false
		}
		for _, above := range h[:i] {
			if above[c] != proof.Residue(above[c], row[c]) {
				return false
			}
		}
		last = c
	}
	return true
}

// known is a matrix whose module's form was there ahead of it.
type known struct {
	m, form api.M
	pivots  []int
	width   int
	// number tells numbers of the kind that it is made of.
	number func() api.G
}

// modules are such ones of all small sizes, of small numbers and of long ones.
func modules(d *proof.Dice) []known {
	var list []known
	small := func() api.G { return proof.Whole(d.Small(3)) }
	for _, number := range []func() api.G{small, small, small, small, func() api.G { return d.G(1) }, func() api.G { return d.G(3) }} {
		for width := 1; width <= 6; width++ {
			for rank := range width + 1 {
				list = append(list, drawn(d, rank, width, d.Next(3), number))
			}
		}
	}
	return list
}

// drawn tells one of this rank and width, with so many rows more than it needs.
func drawn(d *proof.Dice, rank, width, more int, number func() api.G) known {
	k := known{pivots: columns(d, rank, width), width: width, number: number}
	for i, c := range k.pivots {
		pivot := api.G{}
		for isZero(pivot) {
			pivot, _ = gint.Canon(number())
		}
		for _, above := range k.form[:i] {
			above[c], _ = gres.Reduce(above[c], pivot)
		}
		row := append(make([]api.G, c), pivot)
		k.form = append(k.form, append(row, k.vector()[c+1:]...))
	}
	k.form = proof.Canon(k.form)
	k.m = proof.Fresh(k.form)
	for range more {
		k.m = append(k.m, make([]api.G, width))
	}
	k.m = d.Mixed(k.m, number)
	return k
}

func isZero(a api.G) bool { return gint.Equal(a, api.G{}) }

// columns tells so many of the numbers below n, rising.
func columns(d *proof.Dice, count, n int) []int {
	var list []int
	for c := range n {
		if d.Next(n-c) < count-len(list) {
			list = append(list, c)
		}
	}
	return list
}

// vector tells one of any numbers.
func (k known) vector() []api.G {
	v := make([]api.G, k.width)
	for j := range v {
		v[j] = k.number()
	}
	return v
}

// combined tells what some numbers make of the form's rows.
func (k known) combined(x []api.G) []api.G {
	return sum(make([]api.G, k.width), x, k.form)
}

// sum tells v and the rows, each of them times its number.
func sum(v, x []api.G, m api.M) []api.G {
	all := slices.Clone(v)
	for i, row := range m {
		for j, y := range row {
			all[j] = gint.Add(all[j], gint.Mul(x[i], y))
		}
	}
	return all
}
