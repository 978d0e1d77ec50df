package gmod_test

import (
	"slices"
	"testing"

	"tessel/api"
	"tessel/ghnf"
	"tessel/gint"
	"tessel/gmat"
	"tessel/gmod"
	"tessel/proof"
	"tessel/zint"
)

type rows = proof.Rows

func g(re, im int64) api.G { return proof.G(re, im) }

func isZero(a api.G) bool { return gint.Equal(a, api.G{}) }

// form tells a matrix's module in Hermite form.
func form(m api.M) api.M {
	h, _ := ghnf.Form(m)
	return h
}

// behind tells those rows of a form that are 0 in their first n numbers, without these.
func behind(h api.M, n int) api.M {
	var left api.M
	for _, row := range h {
		if !slices.ContainsFunc(row[:n], func(x api.G) bool { return !isZero(x) }) {
			left = append(left, row[n:])
		}
	}
	return left
}

// common tells what two matrices of one width have: a's rows stand beside themselves, b's beside noughts; where sums of the first ones are 0, those beside are of a's as well as of b's.
func common(a, b api.M) api.M {
	var both api.M
	for _, row := range a {
		both = append(both, slices.Concat(row, row))
	}
	for _, row := range b {
		both = append(both, slices.Concat(row, make([]api.G, len(row))))
	}
	if len(both) == 0 {
		return nil
	}
	return behind(form(both), len(both[0])/2)
}

// zeros tells of which lists a matrix makes 0: each of its rows stands beside its place.
func zeros(m api.M) api.M {
	if len(m) == 0 {
		return nil
	}
	marked, _ := gmat.Ident(len(m))
	for i, row := range m {
		marked[i] = slices.Concat(row, marked[i])
	}
	return behind(form(marked), len(m[0]))
}

// isMember tells whether a vector lies in a module.
func isMember(m api.M, v []api.G) bool {
	_, e := ghnf.Member(m, v)
	return e == api.OK
}

// vectors lists all of n numbers whose parts are at most most in amount.
func vectors(n, most int) [][]api.G {
	var list [][]api.G
	for _, numbers := range proof.Lists(proof.Square(most), n) {
		v := make([]api.G, n)
		for j, x := range numbers {
			v[j] = proof.Whole(x.(complex128))
		}
		list = append(list, v)
	}
	return list
}

// timesEach tells rows, each times its number.
func timesEach(m api.M, numbers []api.G) api.M {
	var all api.M
	for i, row := range m {
		multiple, _ := gmat.Scale(api.M{row}, numbers[i])
		all = append(all, multiple...)
	}
	return all
}

// pair is two modules of which it was known ahead what they make: each has of the same independent rows multiples of its own.
type pair struct {
	base api.M
	p, q []api.G
	a, b api.M
}

// paired tells such a pair; number tells of what the multiples are made, steps how the rows are mixed. With inside the second module lies in the first one.
func paired(d *proof.Dice, base api.M, number, steps func() api.G, inside bool) pair {
	k := pair{base: base}
	for range base {
		p, q := number(), number()
		if inside {
			q = gint.Mul(p, q)
		}
		k.p, k.q = append(k.p, p), append(k.q, q)
	}
	k.a, k.b = k.rows(d, k.p, steps), k.rows(d, k.q, steps)
	return k
}

// rows tells rows that make these multiples of the base: mixed, and now and then more than there must be.
func (k pair) rows(d *proof.Dice, numbers []api.G, steps func() api.G) api.M {
	m := timesEach(k.base, numbers)
	for range min(d.Next(3), api.MaxSize-len(m)) {
		m = append(m, make([]api.G, len(m[0])))
	}
	return d.Mixed(m, steps)
}

// turned tells the pair with its modules exchanged.
func (k pair) turned() pair { return pair{k.base, k.q, k.p, k.b, k.a} }

// sum and meet tell their forms by divisors and multiples of two numbers.
func (k pair) sum() api.M {
	var all []api.G
	for i, p := range k.p {
		all = append(all, gint.Gcd(p, k.q[i]))
	}
	return form(timesEach(k.base, all))
}

func (k pair) meet() api.M {
	var all []api.G
	for i, p := range k.p {
		part, e := gint.Exact(p, gint.Gcd(p, k.q[i]))
		if e != api.OK {
			part = api.G{}
		}
		all = append(all, gint.Mul(part, k.q[i]))
	}
	return form(timesEach(k.base, all))
}

// contains tells whether the second lies in the first.
func (k pair) contains() bool {
	for i, p := range k.p {
		if _, e := gint.Exact(k.q[i], p); e != api.OK && !isZero(k.q[i]) {
			return false
		}
	}
	return true
}

// quotient tells how many members of the first there are but for those of the second; of infinitely many it tells false.
func (k pair) quotient() (api.Z, bool) {
	count := proof.Z(1)
	for i, p := range k.p {
		times, _ := gint.Exact(k.q[i], p)
		if isZero(times) && !isZero(p) {
			return api.Z{}, false
		}
		if !isZero(p) {
			count = zint.Mul(count, gint.Norm(times))
		}
	}
	return count, k.contains()
}

// holds tells where the calls of both modules are not what is known of them.
func (k pair) holds(t *testing.T) {
	t.Helper()
	what := " of " + proof.Told(k.a, k.b)
	both, e := gmod.Sum(k.a, k.b)
	proof.Taken(t, "Sum"+what, both, e, k.sum())
	both, e = gmod.Meet(k.a, k.b)
	proof.Taken(t, "Meet"+what, both, e, k.meet())
	is, e := gmod.Contains(k.a, k.b)
	proof.Taken(t, "Contains"+what, is, e, k.contains())
	count, e := gmod.Quotient(k.a, k.b)
	if want, told := k.quotient(); told {
		proof.Taken(t, "Quotient"+what, count, e, want)
	} else {
		proof.Refused(t, "Quotient"+what, count, e, api.ErrNone)
	}
}
