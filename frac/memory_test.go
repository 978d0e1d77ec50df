package frac_test

import (
	"fmt"
	"math"
	"slices"
	"testing"

	"tessel/api"
	"tessel/frac"
	"tessel/zint"
)

// call is one of the package's calls, told as the whole numbers that it answers and all else that it answers.
type call struct {
	name string
	play func(a, b api.Q) ([]api.Z, string)
}

func calls() []call {
	rational := func(name string, f operation) call {
		return call{name, func(a, b api.Q) ([]api.Z, string) {
			c, e := f(a, b)
			return []api.Z{c.Num, c.Den}, fmt.Sprint(int(e))
		}}
	}
	whole := func(name string, f func(a api.Q) (api.Z, api.Errno)) call {
		return call{name, func(a, b api.Q) ([]api.Z, string) {
			c, e := f(a)
			return []api.Z{c}, fmt.Sprint(int(e))
		}}
	}
	list := []call{
		rational("Make", func(a, b api.Q) (api.Q, api.Errno) { return frac.Make(a.Num, a.Den) }),
		rational("Make of two numerators", func(a, b api.Q) (api.Q, api.Errno) { return frac.Make(a.Num, b.Num) }),
		rational("Of", func(a, b api.Q) (api.Q, api.Errno) {
			n, _ := zint.Int(a.Num)
			return frac.Of(math.Ldexp(float64(n), -zint.Bits(b.Num)))
		}),
		whole("Floor", frac.Floor), whole("Round", frac.Round),
		{"Cmp", func(a, b api.Q) ([]api.Z, string) { n, e := frac.Cmp(a, b); return nil, fmt.Sprint(n, int(e)) }},
		{"Text", func(a, b api.Q) ([]api.Z, string) { s, e := frac.Text(a); return nil, fmt.Sprint(s, int(e)) }},
		rational("Parse", func(a, b api.Q) (api.Q, api.Errno) { s, _ := frac.Text(a); return frac.Parse(s) }),
	}
	for _, o := range operations() {
		list = append(list, rational(o.name, o.play))
	}
	for _, n := range []int{-1, 0, 1, 2, 7, 1 << 40} {
		list = append(list, rational(fmt.Sprint("Pow ", n), func(a, b api.Q) (api.Q, api.Errno) { return frac.Pow(a, n) }))
	}
	return list
}

// roomy lays the rational's digits where room is spare behind them, and tells all of that memory too.
func roomy(a api.Q) (number api.Q, all [][]uint32) {
	spare := []uint32{0xdeadbeef, 0, 0xcafe}
	num, den := append(slices.Clone(a.Num.Mag), spare...), append(slices.Clone(a.Den.Mag), spare...)
	number = api.Q{Num: api.Z{Neg: a.Num.Neg, Mag: num[:len(a.Num.Mag)]}, Den: api.Z{Neg: a.Den.Neg, Mag: den[:len(a.Den.Mag)]}}
	return number, [][]uint32{num, den}
}

func copies(lists [][]uint32) [][]uint32 {
	var all [][]uint32
	for _, digits := range lists {
		all = append(all, slices.Clone(digits))
	}
	return all
}

func unchanged(lists, before [][]uint32) bool {
	return slices.EqualFunc(lists, before, func(a, b []uint32) bool { return slices.Equal(a, b) })
}

func copiesZ(numbers []api.Z) []api.Z {
	var list []api.Z
	for _, a := range numbers {
		list = append(list, freshZ(a))
	}
	return list
}

func allAlike(a, b []api.Z) bool { return slices.EqualFunc(a, b, alikeZ) }

// scribble writes over a number's digits and their spare room.
func scribble(a api.Z) {
	all := a.Mag[:cap(a.Mag)]
	for i := range all {
		all[i] = ^all[i]
	}
}

// pairs plays all samples with all samples, and each with itself.
func pairs(test func(a, b api.Q)) {
	for _, a := range samples() {
		for _, b := range samples() {
			test(a, b)
		}
	}
}

func TestHandedIn(t *testing.T) { // R4: what is handed in, spare room too, is neither changed nor kept
	for _, c := range calls() {
		pairs(func(x, y api.Q) {
			a, allA := roomy(x)
			b, allB := roomy(y)
			memory := append(allA, allB...)
			beforeMemory := copies(memory)
			numbers, rest := c.play(a, b)
			if !unchanged(memory, beforeMemory) {
				t.Fatalf("%s(%v, %v) changes what it is handed", c.name, x, y)
			}
			before := copiesZ(numbers)
			for _, handed := range []api.Z{a.Num, a.Den, b.Num, b.Den} {
				scribble(handed)
			}
			if !allAlike(numbers, before) {
				t.Fatalf("%s(%v, %v): the answer changes with what was handed in", c.name, x, y)
			}
			again, restAgain := c.play(fresh(x), fresh(y))
			if !allAlike(again, before) || rest != restAgain {
				t.Fatalf("%s(%v, %v): another answer, the second time", c.name, x, y)
			}
		})
	}
}

func TestAnswered(t *testing.T) { // R4: what is answered, spare room too, is new memory, and no two numbers share any
	for _, c := range calls() {
		pairs(func(x, y api.Q) {
			a, allA := roomy(x)
			b, allB := roomy(y)
			memory := append(allA, allB...)
			beforeMemory := copies(memory)
			numbers, _ := c.play(a, b)
			before := copiesZ(numbers)
			for i, n := range numbers {
				scribble(n)
				if !unchanged(memory, beforeMemory) {
					t.Fatalf("%s(%v, %v): answer %d shares memory with what was handed in", c.name, x, y, i)
				}
				if !allAlike(numbers[i+1:], before[i+1:]) {
					t.Fatalf("%s(%v, %v): answer %d shares memory with another", c.name, x, y, i)
				}
			}
			again, _ := c.play(a, b)
			if !allAlike(again, before) {
				t.Fatalf("%s(%v, %v): what was answered is kept", c.name, x, y)
			}
		})
	}
}

func TestSharedDigits(t *testing.T) { // R4: one rational as both arguments, or numbers that share digits
	for _, c := range calls() {
		for _, x := range samples() {
			a := fresh(x)
			num := a.Num.Mag
			for _, b := range []api.Q{
				a, {Num: a.Den, Den: a.Num}, {Num: a.Num, Den: a.Num}, {Num: api.Z{Neg: !a.Num.Neg, Mag: num}, Den: a.Num}, {Num: api.Z{Mag: num[:len(num)/2]}, Den: api.Z{Neg: true, Mag: num[len(num)/2:]}},
			} {
				want, wantRest := c.play(fresh(x), fresh(b))
				numbers, rest := c.play(a, b)
				if !allAlike(numbers, want) || rest != wantRest || !alike(a, x) {
					t.Errorf("%s(%v, %v), digits shared: %v %s, want %v %s", c.name, x, b, numbers, rest, want, wantRest)
				}
				want, wantRest = c.play(fresh(b), fresh(b))
				if numbers, rest := c.play(b, b); !allAlike(numbers, want) || rest != wantRest || !alike(a, x) {
					t.Errorf("%s of %v twice, digits shared: %v %s, want %v %s", c.name, b, numbers, rest, want, wantRest)
				}
			}
		}
	}
}

func TestAnswersAreLow(t *testing.T) { // lowest terms, canonical, Den above 0; with an error (R2) the zero value
	for _, c := range calls() {
		pairs(func(x, y api.Q) {
			numbers, rest := c.play(x, y)
			others, restOthers := c.play(longer(x), longer(y))
			if !allAlike(numbers, others) || rest != restOthers {
				t.Errorf("%s(%v, %v): digits 0 at the top make a difference", c.name, x, y)
			}
			for _, n := range numbers {
				if !alikeZ(n, number(n.Neg, n.Mag...)) || rest != "0" && !isZero(n) {
					t.Errorf("%s(%v, %v): %v, error %s", c.name, x, y, n, rest)
				}
			}
			if len(numbers) == 2 && rest == "0" && !isLow(api.Q{Num: numbers[0], Den: numbers[1]}) {
				t.Errorf("%s(%v, %v): %v is not in lowest terms", c.name, x, y, numbers)
			}
		})
	}
}

func TestLong(t *testing.T) { // R1: on long numbers, and on very many noughts, each call ends
	long := api.Z{Neg: true, Mag: slices.Repeat([]uint32{1<<32 - 1, 7, 1 << 31}, 400)}
	nought := api.Z{Neg: true, Mag: make([]uint32, 1<<18)}
	three := api.Z{Neg: true, Mag: append([]uint32{3}, make([]uint32, 1<<18)...)}
	short := func(a api.Z) api.Z { return number(a.Neg, slices.Clone(a.Mag)...) }
	list := []api.Q{{Num: long, Den: three}, {Num: three, Den: long}, {Num: nought, Den: three}, {Num: three, Den: nought}, {Num: long, Den: long}}
	for _, c := range calls() {
		for _, x := range list {
			for _, y := range list {
				want, wantRest := c.play(api.Q{Num: short(x.Num), Den: short(x.Den)}, api.Q{Num: short(y.Num), Den: short(y.Den)})
				if numbers, rest := c.play(x, y); !allAlike(numbers, want) || rest != wantRest {
					t.Errorf("%s of long numbers: the form makes a difference", c.name)
				}
			}
		}
	}
}
