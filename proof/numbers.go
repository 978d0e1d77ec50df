package proof

import "tessel/api"

// Number tells a canonical whole number of its digits, the lowest one first.
func Number(neg bool, digits ...uint32) api.Z {
	for len(digits) > 0 && digits[len(digits)-1] == 0 {
		digits = digits[:len(digits)-1]
	}
	return api.Z{Neg: neg && len(digits) > 0, Mag: digits}
}

// Z tells a machine's number.
func Z(n int64) api.Z {
	amount := uint64(n)
	if n < 0 {
		amount = -amount
	}
	return Number(n < 0, uint32(amount), uint32(amount>>32))
}

// G tells re + im i.
func G(re, im int64) api.G { return api.G{Re: Z(re), Im: Z(im)} }

// Power2 tells 2^n.
func Power2(n int) api.Z {
	digits := make([]uint32, n/32+1)
	digits[n/32] = 1 << (n % 32)
	return Number(false, digits...)
}

// Noughts are forms in which 0 may be handed in.
func Noughts() []api.Z {
	return []api.Z{{}, {Neg: true}, {Mag: []uint32{}}, {Neg: true, Mag: []uint32{}}, {Mag: []uint32{0}}, {Neg: true, Mag: []uint32{0}}, {Neg: true, Mag: []uint32{0, 0, 0}}}
}

// GNoughts are forms in which the Gaussian 0 may be handed in.
func GNoughts() []api.G {
	var list []api.G
	for _, nought := range Noughts() {
		list = append(list, api.G{Re: nought}, api.G{Im: nought}, api.G{Re: nought, Im: Fresh(nought)})
	}
	return list
}

// Forms are four in which one Gaussian integer may be handed in.
func Forms(a api.G) []api.G {
	return []api.G{a, Longer(a), {Re: Longer(a.Re), Im: a.Im}, {Re: a.Re, Im: Longer(a.Im)}}
}

// Dice tell numbers that come in the same order at each run.
type Dice uint64

// Next tells a number from 0 to n - 1.
func (d *Dice) Next(n int) int {
	*d = *d*6364136223846793005 + 1442695040888963407
	return int(uint64(*d) >> 33 % uint64(n))
}

// Digit tells one, now and then one at an edge.
func (d *Dice) Digit() uint32 {
	edges := []uint32{0, 1, 2, 1<<31 - 1, 1 << 31, 1<<31 + 1, 1<<32 - 2, 1<<32 - 1}
	if k := d.Next(2 * len(edges)); k < len(edges) {
		return edges[k]
	}
	return uint32(d.Next(1<<16)<<16 | d.Next(1<<16))
}

// Z tells a whole number of at most size digits, and now and then a digit 0 at the top.
func (d *Dice) Z(size int) api.Z {
	digits := make([]uint32, d.Next(size+1))
	for i := range digits {
		digits[i] = d.Digit()
	}
	return api.Z{Neg: d.Next(2) == 1, Mag: append(digits, make([]uint32, d.Next(3)/2)...)}
}

// G tells a Gaussian integer whose parts are such numbers.
func (d *Dice) G(size int) api.G { return api.G{Re: d.Z(size), Im: d.Z(size)} }

// ZNotZero tells a whole number that is not 0.
func (d *Dice) ZNotZero(size int) api.Z { return notZero(size, d.Z) }

// GNotZero tells a Gaussian integer that is not 0.
func (d *Dice) GNotZero(size int) api.G { return notZero(size, d.G) }

func notZero[V any](size int, next func(size int) V) V {
	for {
		if a := next(size); !isZero(Canon(a)) {
			return a
		}
	}
}
