package gsmith_test

import (
	"testing"

	"tessel/api"
	"tessel/proof"
)

func TestNotGood(t *testing.T) { // all calls
	for _, m := range proof.Crooked() {
		proof.CheckRefused(t, calls(), proof.All(m), api.ErrShape)
		turned := api.M{}
		for range m {
			turned = append(turned, make([]api.G, len(m)+api.MaxSize))
		}
		proof.CheckRefused(t, calls(), proof.All(turned), api.ErrShape)
	}
}

func TestEmpty(t *testing.T) { // all calls: no rows, rows without columns, and noughts
	holds(t, nil, nil)
	holds(t, api.M{}, nil)
	for n := 1; n <= api.MaxSize; n++ {
		holds(t, make(api.M, n), nil)
		holds(t, proof.Blank(n, 0), nil)
	}
	for _, size := range [][2]int{{1, 1}, {1, 2}, {2, 1}, {3, 3}, {1, api.MaxSize}, {api.MaxSize, 1}, {5, 7}} {
		m := proof.Blank(size[0], size[1])
		holds(t, m, nil)
		for k, nought := range proof.GNoughts() {
			m[k%size[0]][k%size[1]] = nought
		}
		holds(t, m, nil)
	}
}

func TestOneNumber(t *testing.T) { // P11.1: wherever it stands, whatever its form
	for high := 1; high <= 4; high++ {
		for wide := 1; wide <= 4; wide++ {
			for i := range high {
				for j := range wide {
					for _, x := range []complex128{1, -1i, 2 + 1i, -2, 3i, -1 - 1i} {
						m := proof.Blank(high, wide)
						m[i][j] = proof.Longer(proof.Whole(x))
						holds(t, m, proof.Vector(proof.Associate(x)))
					}
				}
			}
		}
	}
}
