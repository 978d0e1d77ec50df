package gres_test

import (
	"fmt"
	"math"

	"tessel/api"
	"tessel/gint"
	"tessel/proof"
	"tessel/zint"
)

func z(n int64) api.Z { return proof.Z(n) }

func g(re, im int64) api.G { return proof.G(re, im) }

func whole(a complex128) api.G { return proof.Whole(a) }

// inSquare tells whether r / m lies in the half-open square.
func inSquare(r, m complex128) bool {
	twice, n := 2*r*proof.Conj(m), proof.Norm(m)
	return -n <= real(twice) && real(twice) < n && -n <= imag(twice) && imag(twice) < n
}

// moduli lists all numbers whose parts are at most n in amount, but 0.
func moduli(n int) []complex128 {
	var list []complex128
	for _, m := range proof.Square(n) {
		if m != 0 {
			list = append(list, m)
		}
	}
	return list
}

// residuesOf lists all residues by m, looked for among all numbers that may be ones.
func residuesOf(m complex128) []complex128 {
	var list []complex128
	for _, r := range proof.Square(int(math.Sqrt(proof.Norm(m)))) {
		if inSquare(r, m) {
			list = append(list, r)
		}
	}
	return list
}

// pick tells the one number of a list that is as it is asked for, and whether there is just one.
func pick(list []complex128, is func(r complex128) bool) (complex128, bool) {
	var found []complex128
	for _, r := range list {
		if is(r) {
			found = append(found, r)
		}
	}
	if len(found) != 1 {
		return 0, false
	}
	return found[0], true
}

// residueOf tells the one of m's residues that is the same as a.
func residueOf(residues []complex128, a, m complex128) complex128 {
	r, _ := pick(residues, func(r complex128) bool { return proof.Divides(m, a-r) })
	return r
}

// forms are those in which one number may be handed in.
func forms(a complex128) []api.G { return proof.Forms(whole(a)) }

// called names a call with its arguments, whatever their forms.
func called(name string, args ...api.G) string {
	for i, a := range args {
		name += []string{"(", ", "}[min(i, 1)] + gint.Text(a)
	}
	return name + ")"
}

// fault tells where r is no residue, or is not the same as a by m, or is not canonical; else nothing. m is not 0.
func fault(r, a, m api.G) string {
	if !proof.Alike(r, proof.Canon(r)) {
		return fmt.Sprintf("not canonical: %v", r)
	}
	if !sameBy(r, a, m) {
		return gint.Text(r) + " is not the same by the modulus as " + gint.Text(a)
	}
	place, n := gint.Mul(r, gint.Conj(m)), gint.Norm(m)
	for _, part := range []api.Z{place.Re, place.Im} {
		twice := zint.Add(part, part)
		if zint.Cmp(twice, zint.Neg(n)) < 0 || zint.Cmp(twice, n) >= 0 {
			return gint.Text(r) + " lies outside of the square"
		}
	}
	return ""
}

// sameBy tells whether m divides a - b. m is not 0.
func sameBy(a, b, m api.G) bool {
	_, e := gint.Exact(gint.Sub(a, b), m)
	return e == api.OK
}

// isResidue tells a fault where an answer is not a's residue by m.
func isResidue(t proof.T, what string, got api.G, e api.Errno, a, m api.G) {
	t.Helper()
	if e != api.OK {
		t.Errorf("%s: error %d", what, e)
	} else if f := fault(got, a, m); f != "" {
		t.Errorf("%s: %s", what, f)
	}
}
