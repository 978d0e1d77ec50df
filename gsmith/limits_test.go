package gsmith_test

import (
	"testing"

	"tessel/api"
	"tessel/proof"
)

const most = api.MaxSize

func TestMostRows(t *testing.T) { // P11.1, P11.2: of as many rows or columns as there may be
	d := proof.Dice(8)
	kind := kinds(&d)[0]
	for _, size := range [][3]int{{most, most, most}, {most, most, most - 1}, {most, most, most / 2}, {most, 5, 5}, {5, most, 5}, {most, 1, 1}, {1, most, 1}, {most - 1, most, 3}} {
		k := drawn(&d, size[0], size[1], size[2], kind[0], kind[1])
		holds(t, k.m, k.factors)
	}
}

func TestMostOfPowers(t *testing.T) { // P11.1: of twos that rise, in the wrong order; of primes to one another
	falling := proof.Blank(most, most)
	var powers []api.G
	for i := range falling {
		falling[i][most-1-i] = api.G{Im: proof.Power2((7 * i) % most)}
		powers = append(powers, api.G{Re: proof.Power2(i)})
	}
	holds(t, falling, powers)
	primes, product := proof.Blank(most, most), int64(1)
	for i := range most {
		primes[i][i] = g(1, 0)
	}
	for i, p := range []int64{2, 3, 5, 7, 11, 13, 17, 19, 23, 29} {
		primes[6*i][6*i] = g(0, p)
		product *= p
	}
	want := make([]api.G, most)
	for i := range want {
		want[i] = g(1, 0)
	}
	want[most-1] = g(product, 0)
	holds(t, primes, want)
}
