package proof

import (
	"tessel/api"
	"tessel/zint"
)

// Q tells n / d as it is handed in: in lowest terms or not, d of any sign, or 0.
func Q(n, d int64) api.Q { return api.Q{Num: Z(n), Den: Z(d)} }

// Low tells n / d as it must be answered: the common divisors are found by trial. d is not 0.
func Low(n, d int64) api.Q {
	for k := max(n, -n, d, -d); k > 1; k-- {
		if n%k == 0 && d%k == 0 {
			n, d = n/k, d/k
		}
	}
	if d < 0 {
		n, d = -n, -d
	}
	return Q(n, d)
}

// Times tells the same rational, both of its numbers times k.
func Times(a api.Q, k api.Z) api.Q {
	return api.Q{Num: zint.Mul(a.Num, k), Den: zint.Mul(a.Den, k)}
}

// QForms are five in which one rational may be handed in.
func QForms(a api.Q) []api.Q {
	return []api.Q{a, Longer(a), Times(a, Z(-1)), Longer(Times(a, Z(-6))), Times(a, Z(1<<40))}
}

// Hollows are forms of what is no rational: a number over 0.
func Hollows() []api.Q {
	var list []api.Q
	for _, den := range []api.Z{{}, {Neg: true}, {Mag: []uint32{0}}, {Neg: true, Mag: []uint32{0, 0, 0}}} {
		for _, num := range []api.Z{{}, Z(1), Z(-7), Power2(70), Longer(Z(3)), Longer(Z(0))} {
			list = append(list, api.Q{Num: Fresh(num), Den: Fresh(den)})
		}
	}
	return list
}

// Q tells a rational in lowest terms or not, of a Den of either sign.
func (d *Dice) Q(size int) api.Q {
	a := api.Q{Num: d.Z(size), Den: d.ZNotZero(size)}
	if d.Next(2) == 1 {
		a = Times(a, d.ZNotZero(2))
	}
	return a
}
