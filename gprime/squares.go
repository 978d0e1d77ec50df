package gprime

import (
	"tessel/api"
	"tessel/gint"
)

// squares lists the numbers of a norm with Re not below Im and Im not below 0, by rising real parts.
func squares(norm uint64) []api.G {
	re := uint64(0)
	for 2*re*re < norm {
		re++
	}
	im := re
	var list []api.G
	// Of the numbers that are still to be found the real part is at least re, the imaginary part at most im.
search:
	for {
		switch sum := re*re + im*im; {
		case sum < norm:
			re++
		case sum == norm:
			list = append(list, gint.From(int64(re), int64(im)))
			re++
		case im > 0:
			im--
		default:
			break search
		}
	}
	return list
}

// primesOver lists the factors that divide a prime number, rising by gint.Cmp.
func primesOver(p uint64) []api.G {
	found := squares(p)
	if len(found) == 0 {
		return []api.G{gint.From(int64(p), 0)}
	}
	// A prime number is the norm of just one number with Re not below Im; what that number is turned into by exchanging its parts divides p as well.
	prime := found[0]
	exchanged := gint.Turn(gint.Conj(prime), 1)
	if gint.Equal(prime, exchanged) {
		return found
	}
	return []api.G{exchanged, prime}
}

// takeOut tells how often a prime divides a number that is not 0, and what is left of it then.
func takeOut(prime, a api.G) (n int, rest api.G) {
	for {
		quotient, e := gint.Exact(a, prime)
		if e != api.OK {
			return n, a
		}
		n, a = n+1, quotient
	}
}
