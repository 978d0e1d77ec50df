package gsmith_test

import (
	"testing"

	"tessel/api"
	"tessel/ghnf"
	"tessel/gint"
	"tessel/gprime"
	"tessel/gsmith"
	"tessel/proof"
)

// takesAll tells whether a number of times each vector is a member of a module: then that many times each of the ones is.
func takesAll(m api.M, times api.G) bool {
	for j := range width(m) {
		v := make([]api.G, width(m))
		v[j] = times
		if _, e := ghnf.Member(m, v); e != api.OK {
			return false
		}
	}
	return true
}

func TestExponent(t *testing.T) { // P11.2: it takes all vectors into the module, and no part of it does
	d, ends := proof.Dice(4), map[api.Errno]int{}
	for k := range 200 {
		wide := 1 + d.Next(4)
		m := d.Rows(wide+d.Next(3)-1, wide, 1+k%4).Whole()
		last, e := gsmith.Exponent(m)
		ends[e]++
		if e != api.OK {
			proof.Refused(t, "Exponent of "+proof.Told(m), last, e, api.ErrNone)
			index, e := ghnf.Index(m)
			proof.Refused(t, "Index of "+proof.Told(m), index, e, api.ErrNone)
			continue
		}
		_, primes, e := gprime.Factor(last)
		if first, _ := gint.Canon(last); e != api.OK || !proof.Alike(first, last) || !takesAll(m, last) {
			t.Errorf("Exponent of %s: %s, error %d", proof.Told(m), gint.Text(last), e)
		}
		for _, power := range primes {
			if part, _ := gint.Exact(last, power.P); takesAll(m, part) {
				t.Errorf("Exponent of %s: %s, though %s does", proof.Told(m), gint.Text(last), gint.Text(part))
			}
		}
	}
	if ends[api.OK] < 80 || ends[api.ErrNone] < 30 {
		t.Errorf("how often it ends so: %v", ends)
	}
}
