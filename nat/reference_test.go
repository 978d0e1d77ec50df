package nat_test

import (
	"fmt"
	"slices"
)

// A slow reckoning of its own, to hold nat against: lists of digits by a small base, the lowest one first, and nothing but school's ways.
type slow []int

const slowBase = 16

func slowOf(a []uint32) slow {
	s := slow{}
	for _, d := range a {
		for k := 0; k < 8; k++ {
			s = append(s, int(d>>(4*k)&15))
		}
	}
	return s.trim()
}

func (s slow) trim() slow {
	for len(s) > 0 && s[len(s)-1] == 0 {
		s = s[:len(s)-1]
	}
	return s
}

func (s slow) at(k int) int {
	if k < len(s) {
		return s[k]
	}
	return 0
}

func (s slow) digits() []uint32 {
	a := make([]uint32, (len(s.trim())+7)/8)
	for i, d := range s.trim() {
		a[i/8] |= uint32(d) << (4 * (i % 8))
	}
	return a
}

func (s slow) cmp(t slow) int {
	for k := max(len(s), len(t)) - 1; k >= 0; k-- {
		if s.at(k) != t.at(k) {
			if s.at(k) < t.at(k) {
				return -1
			}
			return 1
		}
	}
	return 0
}

func (s slow) add(t slow) slow {
	sum, carry := slow{}, 0
	for k := 0; k < max(len(s), len(t)) || carry > 0; k++ {
		carry += s.at(k) + t.at(k)
		sum = append(sum, carry%slowBase)
		carry /= slowBase
	}
	return sum.trim()
}

// sub wants s not below t.
func (s slow) sub(t slow) slow {
	left, owed := slow{}, 0
	for k := range s {
		d := s[k] - t.at(k) - owed
		owed = 0
		if d < 0 {
			d, owed = d+slowBase, 1
		}
		left = append(left, d)
	}
	return left.trim()
}

func (s slow) mul(t slow) slow {
	product := make(slow, len(s)+len(t)+1)
	for i, x := range s {
		for j, y := range t {
			product[i+j] += x * y
		}
	}
	for k := 0; k+1 < len(product); k++ {
		product[k+1] += product[k] / slowBase
		product[k] %= slowBase
	}
	return product.trim()
}

func (s slow) divMod(t slow) (q, r slow) {
	q = make(slow, len(s))
	for k := len(s) - 1; k >= 0; k-- {
		r = append(slow{s[k]}, r...).trim()
		for r.cmp(t) >= 0 {
			r = r.sub(t)
			q[k]++
		}
	}
	return q.trim(), r
}

// text turns it into base ten, digit by digit.
func (s slow) text() string {
	tens := []int{0}
	for k := len(s) - 1; k >= 0; k-- {
		carry := s[k]
		for i := range tens {
			carry += tens[i] * slowBase
			tens[i] = carry % 10
			carry /= 10
		}
		for ; carry > 0; carry /= 10 {
			tens = append(tens, carry%10)
		}
	}
	text := ""
	for _, d := range tens {
		text = fmt.Sprint(d) + text
	}
	return text
}

// dice: numbers that come in the same order at each run.
type dice uint64

func (d *dice) next(n int) int {
	*d = *d*6364136223846793005 + 1442695040888963407
	return int(uint64(*d) >> 33 % uint64(n))
}

func (d *dice) digit() uint32 {
	edges := []uint32{0, 0, 1, 2, 1<<31 - 1, 1 << 31, 1<<31 + 1, 1<<32 - 2, 1<<32 - 1, 1<<32 - 1}
	if k := d.next(len(edges) + 4); k < len(edges) {
		return edges[k]
	}
	return uint32(d.next(1<<16)<<16 | d.next(1<<16))
}

// number tells at most size digits, some at the edges, and now and then digits 0 at the top.
func (d *dice) number(size int) []uint32 {
	a := make([]uint32, d.next(size+1))
	for i := range a {
		a[i] = d.digit()
	}
	return append(a, make([]uint32, d.next(3)/2)...)
}

// ones tells n digits, all of them the greatest.
func ones(n int) []uint32 {
	return slices.Repeat([]uint32{1<<32 - 1}, n)
}

// power2 tells 2^n.
func power2(n int) []uint32 {
	a := make([]uint32, n/32+1)
	a[n/32] = 1 << (n % 32)
	return a
}
