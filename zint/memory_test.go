package zint_test

import (
	"fmt"
	"slices"
	"testing"

	"tessel/api"
	"tessel/zint"
)

// call is one of the package's calls, told as the numbers that it answers and all else that it answers.
type call struct {
	name string
	play func(a, b api.Z) ([]api.Z, string)
}

func calls() []call {
	plain := func(name string, f func(a, b api.Z) any) call {
		return call{name, func(a, b api.Z) ([]api.Z, string) { return nil, fmt.Sprint(f(a, b)) }}
	}
	one := func(name string, f func(a, b api.Z) api.Z) call {
		return call{name, func(a, b api.Z) ([]api.Z, string) { return []api.Z{f(a, b)}, "" }}
	}
	checked := func(name string, f func(a, b api.Z) (api.Z, api.Errno)) call {
		return call{name, func(a, b api.Z) ([]api.Z, string) {
			c, e := f(a, b)
			return []api.Z{c}, fmt.Sprint(int(e))
		}}
	}
	two := func(name string, f division) call {
		return call{name, func(a, b api.Z) ([]api.Z, string) {
			q, r, e := f(a, b)
			return []api.Z{q, r}, fmt.Sprint(int(e))
		}}
	}
	return []call{
		one("From", func(a, b api.Z) api.Z { n, _ := zint.Int(a); return zint.From(n) }),
		plain("Int", func(a, b api.Z) any { n, ok := zint.Int(a); return fmt.Sprint(n, ok) }),
		plain("Sign", func(a, b api.Z) any { return zint.Sign(a) }),
		plain("Cmp", func(a, b api.Z) any { return zint.Cmp(a, b) }),
		one("Neg", func(a, b api.Z) api.Z { return zint.Neg(a) }),
		one("Abs", func(a, b api.Z) api.Z { return zint.Abs(a) }),
		one("Add", zint.Add), one("Sub", zint.Sub), one("Mul", zint.Mul),
		two("FloorDiv", zint.FloorDiv), two("RoundDiv", zint.RoundDiv),
		checked("Exact", zint.Exact),
		checked("Exact of a product", func(a, b api.Z) (api.Z, api.Errno) { return zint.Exact(zint.Mul(a, b), b) }),
		one("Gcd", zint.Gcd),
		{"Xgcd", func(a, b api.Z) ([]api.Z, string) {
			g, x, y := zint.Xgcd(a, b)
			return []api.Z{g, x, y}, ""
		}},
		checked("Inverse", zint.Inverse),
		plain("Bits", func(a, b api.Z) any { return zint.Bits(a) }),
		plain("Text", func(a, b api.Z) any { return zint.Text(a) }),
		checked("Parse", func(a, b api.Z) (api.Z, api.Errno) { return zint.Parse(zint.Text(a)) }),
	}
}

// roomy lays the number's digits where room is spare behind them, and tells all of that memory too.
func roomy(a api.Z) (number api.Z, all []uint32) {
	all = append(slices.Clone(a.Mag), 0xdeadbeef, 0, 0xcafe)
	return api.Z{Neg: a.Neg, Mag: all[:len(a.Mag)]}, all
}

func fresh(a api.Z) api.Z { return api.Z{Neg: a.Neg, Mag: slices.Clone(a.Mag)} }

func copies(numbers []api.Z) []api.Z {
	var list []api.Z
	for _, a := range numbers {
		list = append(list, fresh(a))
	}
	return list
}

func allAlike(a, b []api.Z) bool { return slices.EqualFunc(a, b, alike) }

// scribble writes over a number's digits and their spare room.
func scribble(a api.Z) {
	all := a.Mag[:cap(a.Mag)]
	for i := range all {
		all[i] = ^all[i]
	}
}

// pairs plays all samples with all samples, and each with itself.
func pairs(test func(a, b api.Z)) {
	for _, a := range samples() {
		for _, b := range samples() {
			test(a, b)
		}
	}
}

func TestHandedIn(t *testing.T) { // R4: what is handed in, spare room too, is neither changed nor kept
	for _, c := range calls() {
		pairs(func(x, y api.Z) {
			a, allA := roomy(x)
			b, allB := roomy(y)
			beforeA, beforeB := slices.Clone(allA), slices.Clone(allB)
			numbers, rest := c.play(a, b)
			if !slices.Equal(allA, beforeA) || !slices.Equal(allB, beforeB) {
				t.Fatalf("%s(%v, %v) changes what it is handed", c.name, x, y)
			}
			before := copies(numbers)
			scribble(a)
			scribble(b)
			if !allAlike(numbers, before) {
				t.Fatalf("%s(%v, %v): the answer changes with what was handed in", c.name, x, y)
			}
			again, restAgain := c.play(fresh(x), fresh(y))
			if !allAlike(again, before) || rest != restAgain {
				t.Fatalf("%s(%v, %v): another answer, the second time", c.name, x, y)
			}
		})
	}
}

func TestAnswered(t *testing.T) { // R4: what is answered, spare room too, is new memory, and no two numbers share any
	for _, c := range calls() {
		pairs(func(x, y api.Z) {
			a, allA := roomy(x)
			b, allB := roomy(y)
			beforeA, beforeB := slices.Clone(allA), slices.Clone(allB)
			numbers, _ := c.play(a, b)
			before := copies(numbers)
			for i, n := range numbers {
				scribble(n)
				if !slices.Equal(allA, beforeA) || !slices.Equal(allB, beforeB) {
					t.Fatalf("%s(%v, %v): answer %d shares memory with what was handed in", c.name, x, y, i)
				}
				if !allAlike(numbers[i+1:], before[i+1:]) {
					t.Fatalf("%s(%v, %v): answer %d shares memory with another", c.name, x, y, i)
				}
			}
			again, _ := c.play(a, b)
			if !allAlike(again, before) {
				t.Fatalf("%s(%v, %v): what was answered is kept", c.name, x, y)
			}
		})
	}
}

func TestOneNumberTwice(t *testing.T) { // R4: one number as both arguments, or two that share digits
	for _, c := range calls() {
		for _, x := range samples() {
			a := fresh(x)
			for _, b := range []api.Z{a, {Neg: !a.Neg, Mag: a.Mag}, {Neg: a.Neg, Mag: a.Mag[len(a.Mag)/2:]}} {
				want, wantRest := c.play(fresh(x), fresh(b))
				numbers, rest := c.play(a, b)
				if !allAlike(numbers, want) || rest != wantRest || !alike(a, x) {
					t.Errorf("%s(%v, %v), digits shared: %v %s, want %v %s", c.name, x, b, numbers, rest, want, wantRest)
				}
			}
		}
	}
}

func TestValue(t *testing.T) { // digits 0 at the top and Neg of 0 make no difference, and are not answered
	for _, c := range calls() {
		pairs(func(x, y api.Z) {
			numbers, rest := c.play(x, y)
			others, restOthers := c.play(longer(x), longer(y))
			canons, restCanons := c.play(canon(x), canon(y))
			if !allAlike(numbers, others) || rest != restOthers || !allAlike(numbers, canons) || rest != restCanons {
				t.Errorf("%s(%v, %v): the number's form makes a difference", c.name, x, y)
			}
			for _, n := range numbers {
				if !alike(n, canon(n)) {
					t.Errorf("%s(%v, %v): %v is not canonical", c.name, x, y, n)
				}
			}
		})
	}
}

func TestLong(t *testing.T) { // R1: on long numbers, and on very many noughts, each call ends
	long := api.Z{Neg: true, Mag: slices.Repeat([]uint32{1<<32 - 1, 7, 1 << 31}, 500)}
	empty := api.Z{Neg: true, Mag: make([]uint32, 1<<20)}
	for _, c := range calls() {
		for _, x := range []api.Z{long, empty, z(3)} {
			for _, y := range []api.Z{long, empty, z(-5)} {
				want, wantRest := c.play(canon(x), canon(y))
				if numbers, rest := c.play(x, y); !allAlike(numbers, want) || rest != wantRest {
					t.Errorf("%s of long numbers: the form makes a difference", c.name)
				}
			}
		}
	}
}
