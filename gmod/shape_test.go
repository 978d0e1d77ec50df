package gmod_test

import (
	"fmt"
	"testing"

	"tessel/api"
	"tessel/gmat"
	"tessel/gmod"
	"tessel/proof"
)

func TestNotGood(t *testing.T) { // all calls
	for _, m := range proof.Crooked() {
		proof.CheckRefused(t, ofOne(), proof.All(m), api.ErrShape)
		for _, x := range []api.G{{}, g(1, 0), g(2, -3)} {
			proof.CheckRefused(t, ofNumber(), proof.All(m, x), api.ErrShape)
		}
		for _, other := range []api.M{nil, {}, {{}}, {m[0]}, {{g(1, 0)}}, proof.Blank(len(m[0]), len(m)), m} {
			proof.CheckRefused(t, append(ofTwo(), ofMap()...), proof.All(m, other), api.ErrShape)
			proof.CheckRefused(t, append(ofTwo(), ofMap()...), proof.All(other, m), api.ErrShape)
		}
	}
}

func TestOtherWidths(t *testing.T) { // all calls of two: rows, and not as many columns, those of noughts too
	d := proof.Dice(17)
	for width := range 5 {
		for other := range 7 {
			for _, a := range []api.M{d.M(1+d.Next(3), width, 1), proof.Blank(2, width)} {
				for _, b := range []api.M{d.M(1+d.Next(3), other, 1), proof.Blank(1, other)} {
					if width != other {
						proof.CheckRefused(t, ofTwo(), proof.All(a, b), api.ErrShape)
					}
					if width != len(b) {
						proof.CheckRefused(t, ofMap(), proof.All(a, b), api.ErrShape)
					}
				}
			}
			if width > 0 {
				proof.CheckRefused(t, ofMap(), proof.All(proof.Blank(1, width), api.M(nil)), api.ErrShape)
			}
		}
	}
}

// alone are matrices whose module is that of 0 alone.
func alone() []api.M {
	list := []api.M{nil, {}, {{}}, make(api.M, api.MaxSize), proof.Blank(1, 1), proof.Blank(2, 3), proof.Blank(1, api.MaxSize), proof.Blank(api.MaxSize, 2)}
	for _, nought := range proof.GNoughts() {
		list = append(list, api.M{{nought, nought}})
	}
	return list
}

func TestNothing(t *testing.T) { // all calls: of no rows, of rows without columns, and of noughts
	for _, a := range alone() {
		what := " of " + proof.Told(a)
		for _, got := range []func() (api.M, api.Errno){
			func() (api.M, api.Errno) { return gmod.Scale(a, g(2, 1)) },
			func() (api.M, api.Errno) { return gmod.Closure(a) },
		} {
			m, e := got()
			proof.Taken(t, "Scale or Closure"+what, m, e, nil)
		}
		kernel, e := gmod.Kernel(a)
		ones, _ := gmat.Ident(len(a))
		proof.Taken(t, "Kernel"+what, kernel, e, ones)
		for _, b := range alone() {
			if len(a) > 0 && len(b) > 0 && len(a[0]) != len(b[0]) {
				continue
			}
			pair{a: a, b: b}.holds(t)
		}
	}
}

func TestBesideNothing(t *testing.T) { // P12.1, P12.3: a module and 0 alone
	d := proof.Dice(18)
	for width := 1; width <= 4; width++ {
		for k := range 4 {
			m := d.M(1+d.Next(3), width, 2)
			m[0][width-1] = d.GNotZero(1)
			h := form(m)
			for _, none := range []api.M{nil, {}, proof.Blank(1, width), proof.Blank(3, width)} {
				what := fmt.Sprint(" of ", proof.Told(m), " and ", len(none), " rows of noughts, ", k)
				for i, pair := range [][2]api.M{{m, none}, {none, m}} {
					made, e := gmod.Sum(pair[0], pair[1])
					proof.Taken(t, "Sum"+what, made, e, h)
					made, e = gmod.Meet(pair[0], pair[1])
					proof.Taken(t, "Meet"+what, made, e, nil)
					is, e := gmod.Contains(pair[0], pair[1])
					proof.Taken(t, "Contains"+what, is, e, i == 0)
					count, e := gmod.Quotient(pair[0], pair[1])
					proof.Refused(t, "Quotient"+what, count, e, api.ErrNone)
				}
			}
		}
	}
}
