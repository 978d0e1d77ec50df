package proof

import (
	"tessel/api"
	"tessel/gmat"
)

// Mixed tells as many rows of the same module, changed by steps that can be taken back: multiples of one added to another one, exchanges and units. The numbers tell how many times.
func (d *Dice) Mixed(m api.M, number func() api.G) api.M {
	m = Fresh(m)
	n := len(m)
	for range 3 * n * min(n-1, 1) {
		i := d.Next(n)
		j := (i + 1 + d.Next(n-1)) % n
		m, _ = gmat.AddRow(m, i, j, number())
		m, _ = gmat.Swap(m, d.Next(n), j)
		m, _ = gmat.Turn(m, d.Next(n), d.Next(4))
	}
	return m
}
