package gprime_test

import (
	"math"
	"slices"
	"testing"

	"tessel/api"
	"tessel/gprime"
	"tessel/proof"
	"tessel/zint"
)

func over(t *testing.T, p int64, want []complex128) {
	t.Helper()
	got, e := gprime.Over(z(p))
	proof.Taken(t, "Over("+zint.Text(z(p))+")", got, e, all(want))
}

func notOver(t *testing.T, p api.Z, want api.Errno) {
	t.Helper()
	got, e := gprime.Over(p)
	proof.Refused(t, "Over("+zint.Text(p)+")", got, e, want)
}

func TestOverByProducts(t *testing.T) { // P6.3: the factors that divide p
	primes := primesByProducts(1 << 14)
	for p, is := range primeNumbers(127) {
		if !is {
			notOver(t, z(int64(p)), api.ErrArg)
			continue
		}
		var want []complex128
		for prime := range primes {
			if proof.Divides(prime, complex(float64(p), 0)) {
				want = append(want, prime)
			}
		}
		slices.SortFunc(want, proof.Compare)
		over(t, int64(p), want)
		for _, form := range []api.Z{proof.Longer(z(int64(p))), proof.Fresh(z(int64(p)))} {
			got, e := gprime.Over(form)
			proof.Taken(t, "Over of another form", got, e, all(want))
		}
	}
}

func TestOverAll(t *testing.T) { // P6.3: p itself where it leaves 3 by 4, and else those of the norm p: of 2 one, and else two
	byNorm := map[int64][]complex128{}
	for _, a := range quadrant(1<<16 - 1) {
		byNorm[norm(a)] = append(byNorm[norm(a)], a)
	}
	for p, is := range primeNumbers(1<<16 - 1) {
		n := int64(p)
		switch {
		case !is:
			notOver(t, z(n), api.ErrArg)
		case n%4 == 3:
			over(t, n, []complex128{complex(float64(n), 0)})
		default:
			over(t, n, byNorm[n])
			if count := len(byNorm[n]); count != 2 && n != 2 {
				t.Errorf("%d of the norm %d", count, n)
			}
		}
	}
}

func TestOverRefused(t *testing.T) { // P6.3: ErrLimit ahead of ErrArg, and below 0 ErrArg whatever the amount
	for _, n := range []int64{1 << 16, 1<<16 + 1, 1<<16 + 2, 1 << 20, 65543, 1 << 31, 1<<32 + 2, 1<<32 + 13, 1 << 62} {
		notOver(t, z(n), api.ErrLimit)
		notOver(t, proof.Longer(z(n)), api.ErrLimit)
		notOver(t, z(-n), api.ErrArg)
	}
	for _, n := range []int64{1, 4, 9, 25, 35, 65535, 251 * 251, 255 * 257} {
		notOver(t, z(n), api.ErrArg)
	}
	for n := range int64(30) {
		notOver(t, z(-n), api.ErrArg)
		notOver(t, proof.Longer(z(-n)), api.ErrArg)
	}
	for _, nought := range proof.Noughts() {
		notOver(t, nought, api.ErrArg)
	}
	notOver(t, proof.Power2(64), api.ErrLimit)
	notOver(t, zint.Add(proof.Power2(64), z(2)), api.ErrLimit)
	notOver(t, proof.Power2(300), api.ErrLimit)
	notOver(t, zint.Neg(proof.Power2(300)), api.ErrArg)
	notOver(t, zint.Neg(proof.Power2(63)), api.ErrArg)
	notOver(t, zint.Sub(z(5), proof.Power2(64)), api.ErrArg)
}

func squares(t *testing.T, n int64, want []complex128) {
	t.Helper()
	for _, form := range []api.Z{z(n), proof.Longer(z(n))} {
		got, e := gprime.Squares(form)
		proof.Taken(t, "Squares("+zint.Text(z(n))+")", got, e, all(want))
	}
}

func TestSquaresOfSmall(t *testing.T) { // P6.4
	const most = 8000
	byNorm := make([][]complex128, most+1)
	for re := int64(0); re*re <= most; re++ {
		for im := int64(0); im <= re; im++ {
			if n := re*re + im*im; n <= most {
				byNorm[n] = append(byNorm[n], complex(float64(re), float64(im)))
			}
		}
	}
	for n, want := range byNorm {
		squares(t, int64(n), want)
	}
	for _, nought := range proof.Noughts() {
		got, e := gprime.Squares(nought)
		proof.Taken(t, "Squares(0)", got, e, []api.G{g(0, 0)})
	}
}

// squaresByRoots looks for what is left of each square in the machine's floats, which are exact here.
func squaresByRoots(n int64) []complex128 {
	var list []complex128
	for re := range int64(1 << 16) {
		left := n - re*re
		if left < 0 {
			break
		}
		if im := int64(math.Sqrt(float64(left))); im*im == left && im <= re {
			list = append(list, complex(float64(re), float64(im)))
		}
	}
	return list
}

func TestSquaresOfLarge(t *testing.T) { // P6.4
	d := proof.Dice(5)
	rich := int64(5 * 13 * 17 * 29 * 37 * 41)
	list := []int64{1<<32 - 1, 1<<32 - 2, 1<<32 - 3, 1<<32 - 4, 1 << 31, 1<<31 - 1, 1 << 30, 65535 * 65535, 2 * 46340 * 46340, 46341*46341 + 46339*46339, 65521, 65521 * 65521, rich, 2 * rich, 53 * rich, 3 * rich, 9 * rich, 25 * rich, 3486784401, 1220703125, 65535*65535 + 362*362}
	for range 100 {
		a := within(&d, 16)
		list = append(list, norm(a), int64(d.Digit()))
	}
	most := 0
	for _, n := range list {
		want := squaresByRoots(n)
		most = max(most, len(want))
		squares(t, n, want)
	}
	if most != 32*2 {
		t.Errorf("at most %d have one norm", most)
	}
}

func TestSquaresRefused(t *testing.T) { // P6.4
	for _, n := range []api.Z{z(limit), z(limit + 1), z(limit + 25), z(1 << 62), proof.Power2(33), proof.Power2(64), zint.Add(proof.Power2(64), z(25)), proof.Power2(400)} {
		for _, form := range []api.Z{n, proof.Longer(n)} {
			got, e := gprime.Squares(form)
			proof.Refused(t, "Squares("+zint.Text(n)+")", got, e, api.ErrLimit)
		}
		got, e := gprime.Squares(zint.Neg(n))
		proof.Refused(t, "Squares(-"+zint.Text(n)+")", got, e, api.ErrArg)
	}
	for n := range int64(30) {
		got, e := gprime.Squares(z(-1 - n))
		proof.Refused(t, "Squares("+zint.Text(z(-1-n))+")", got, e, api.ErrArg)
	}
}
