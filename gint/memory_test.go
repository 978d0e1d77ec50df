package gint_test

import (
	"fmt"
	"slices"
	"testing"

	"tessel/api"
	"tessel/gint"
	"tessel/zint"
)

// call is one of the package's calls, told as the whole numbers that it answers and all else that it answers.
type call struct {
	name string
	play func(a, b api.G) ([]api.Z, string)
}

// parts lists the parts of what was answered.
func parts(numbers ...api.G) []api.Z {
	var list []api.Z
	for _, a := range numbers {
		list = append(list, a.Re, a.Im)
	}
	return list
}

func calls() []call {
	ofOne := func(name string, f func(a api.G) api.G) call {
		return call{name, func(a, b api.G) ([]api.Z, string) { return parts(f(a)), "0" }}
	}
	ofTwo := func(name string, f func(a, b api.G) api.G) call {
		return call{name, func(a, b api.G) ([]api.Z, string) { return parts(f(a, b)), "0" }}
	}
	list := []call{
		ofOne("From", func(a api.G) api.G {
			re, _ := zint.Int(a.Re)
			im, _ := zint.Int(a.Im)
			return gint.From(re, im)
		}),
		ofTwo("Add", gint.Add), ofTwo("Sub", gint.Sub), ofTwo("Mul", gint.Mul), ofOne("Neg", gint.Neg), ofOne("Conj", gint.Conj), ofTwo("Gcd", gint.Gcd),
		{"Norm", func(a, b api.G) ([]api.Z, string) { return []api.Z{gint.Norm(a)}, "0" }},
		{"Equal", func(a, b api.G) ([]api.Z, string) { return nil, fmt.Sprint(gint.Equal(a, b)) }},
		{"IsUnit", func(a, b api.G) ([]api.Z, string) { return nil, fmt.Sprint(gint.IsUnit(a)) }},
		{"Canon", func(a, b api.G) ([]api.Z, string) { h, k := gint.Canon(a); return parts(h), fmt.Sprint("turned ", k) }},
		{"RoundDiv", func(a, b api.G) ([]api.Z, string) {
			q, r, e := gint.RoundDiv(a, b)
			return parts(q, r), fmt.Sprint(int(e))
		}},
		{"Exact", func(a, b api.G) ([]api.Z, string) { q, e := gint.Exact(a, b); return parts(q), fmt.Sprint(int(e)) }},
		{"Exact of a product", func(a, b api.G) ([]api.Z, string) {
			q, e := gint.Exact(product(a, b), b)
			return parts(q), fmt.Sprint(int(e))
		}},
		{"Xgcd", func(a, b api.G) ([]api.Z, string) { h, x, y := gint.Xgcd(a, b); return parts(h, x, y), "0" }},
		{"Cmp", func(a, b api.G) ([]api.Z, string) { return nil, fmt.Sprint(gint.Cmp(a, b)) }},
		{"Text", func(a, b api.G) ([]api.Z, string) { return nil, gint.Text(a) }},
		{"Parse", func(a, b api.G) ([]api.Z, string) {
			c, e := gint.Parse(gint.Text(a))
			return parts(c), fmt.Sprint(int(e))
		}},
	}
	for k := -1; k < 4; k++ {
		list = append(list, ofOne(fmt.Sprint("Turn by ", k, " "), func(a api.G) api.G { return gint.Turn(a, k) }))
	}
	return list
}

// roomy lays the number's digits where room is spare behind them, and tells all of that memory too.
func roomy(a api.G) (number api.G, all [][]uint32) {
	spare := []uint32{0xdeadbeef, 0, 0xcafe}
	re, im := append(slices.Clone(a.Re.Mag), spare...), append(slices.Clone(a.Im.Mag), spare...)
	number = api.G{Re: api.Z{Neg: a.Re.Neg, Mag: re[:len(a.Re.Mag)]}, Im: api.Z{Neg: a.Im.Neg, Mag: im[:len(a.Im.Mag)]}}
	return number, [][]uint32{re, im}
}

func copies(lists [][]uint32) [][]uint32 {
	var all [][]uint32
	for _, digits := range lists {
		all = append(all, slices.Clone(digits))
	}
	return all
}

func unchanged(lists, before [][]uint32) bool {
	return slices.EqualFunc(lists, before, func(a, b []uint32) bool { return slices.Equal(a, b) })
}

func copiesZ(numbers []api.Z) []api.Z {
	var list []api.Z
	for _, a := range numbers {
		list = append(list, freshZ(a))
	}
	return list
}

func allAlike(a, b []api.Z) bool { return slices.EqualFunc(a, b, alikeZ) }

// scribble writes over a number's digits and their spare room.
func scribble(a api.Z) {
	all := a.Mag[:cap(a.Mag)]
	for i := range all {
		all[i] = ^all[i]
	}
}

// pairs plays all samples with all samples, and each with itself.
func pairs(test func(a, b api.G)) {
	for _, a := range samples() {
		for _, b := range samples() {
			test(a, b)
		}
	}
}

func TestHandedIn(t *testing.T) { // R4: what is handed in, spare room too, is neither changed nor kept
	for _, c := range calls() {
		pairs(func(x, y api.G) {
			a, allA := roomy(x)
			b, allB := roomy(y)
			memory := append(allA, allB...)
			beforeMemory := copies(memory)
			numbers, rest := c.play(a, b)
			if !unchanged(memory, beforeMemory) {
				t.Fatalf("%s(%v, %v) changes what it is handed", c.name, x, y)
			}
			before := copiesZ(numbers)
			for _, handed := range parts(a, b) {
				scribble(handed)
			}
			if !allAlike(numbers, before) {
				t.Fatalf("%s(%v, %v): the answer changes with what was handed in", c.name, x, y)
			}
			again, restAgain := c.play(fresh(x), fresh(y))
			if !allAlike(again, before) || rest != restAgain {
				t.Fatalf("%s(%v, %v): another answer, the second time", c.name, x, y)
			}
		})
	}
}

func TestAnswered(t *testing.T) { // R4: what is answered, spare room too, is new memory, and no two numbers share any
	for _, c := range calls() {
		pairs(func(x, y api.G) {
			a, allA := roomy(x)
			b, allB := roomy(y)
			memory := append(allA, allB...)
			beforeMemory := copies(memory)
			numbers, _ := c.play(a, b)
			before := copiesZ(numbers)
			for i, n := range numbers {
				scribble(n)
				if !unchanged(memory, beforeMemory) {
					t.Fatalf("%s(%v, %v): answer %d shares memory with what was handed in", c.name, x, y, i)
				}
				if !allAlike(numbers[i+1:], before[i+1:]) {
					t.Fatalf("%s(%v, %v): answer %d shares memory with another", c.name, x, y, i)
				}
			}
			again, _ := c.play(a, b)
			if !allAlike(again, before) {
				t.Fatalf("%s(%v, %v): what was answered is kept", c.name, x, y)
			}
		})
	}
}

func TestSharedDigits(t *testing.T) { // R4: one number as both arguments, or numbers that share digits
	for _, c := range calls() {
		for _, x := range samples() {
			a := fresh(x)
			digits := a.Re.Mag
			for _, b := range []api.G{
				a, {Re: a.Im, Im: a.Re}, {Re: a.Re, Im: a.Re}, {Re: api.Z{Neg: !a.Re.Neg, Mag: digits}, Im: a.Re}, {Re: api.Z{Mag: digits[:len(digits)/2]}, Im: api.Z{Neg: true, Mag: digits[len(digits)/2:]}},
			} {
				want, wantRest := c.play(fresh(x), fresh(b))
				numbers, rest := c.play(a, b)
				if !allAlike(numbers, want) || rest != wantRest || !alike(a, x) {
					t.Errorf("%s(%v, %v), digits shared: %v %s, want %v %s", c.name, x, b, numbers, rest, want, wantRest)
				}
				want, wantRest = c.play(fresh(b), fresh(b))
				numbers, rest = c.play(b, b)
				if !allAlike(numbers, want) || rest != wantRest || !alike(a, x) {
					t.Errorf("%s of %v twice, digits shared: %v %s, want %v %s", c.name, b, numbers, rest, want, wantRest)
				}
				for i, n := range numbers {
					scribble(n)
					if !allAlike(numbers[i+1:], want[i+1:]) || !alike(a, x) {
						t.Errorf("%s of %v twice, digits shared: answer %d shares memory", c.name, b, i)
					}
				}
			}
		}
	}
}

func TestAnswersAreCanonical(t *testing.T) { // canonical; with an error (R2) the zero value
	for _, c := range calls() {
		pairs(func(x, y api.G) {
			numbers, rest := c.play(x, y)
			others, restOthers := c.play(longer(x), longer(y))
			if !allAlike(numbers, others) || rest != restOthers {
				t.Errorf("%s(%v, %v): digits 0 at the top make a difference", c.name, x, y)
			}
			for _, n := range numbers {
				if !alikeZ(n, number(n.Neg, n.Mag...)) {
					t.Errorf("%s(%v, %v): %v is not canonical", c.name, x, y, n)
				}
				refused := rest == fmt.Sprint(int(api.ErrZero)) || rest == fmt.Sprint(int(api.ErrInexact))
				if refused && !alikeZ(n, api.Z{}) {
					t.Errorf("%s(%v, %v): %v beside the error %s", c.name, x, y, n, rest)
				}
			}
		})
	}
}

func TestLong(t *testing.T) { // R1: on long numbers, and on very many noughts, each call ends
	long := api.Z{Neg: true, Mag: slices.Repeat([]uint32{1<<32 - 1, 7, 1 << 31}, 100)}
	nought := api.Z{Neg: true, Mag: make([]uint32, 1<<18)}
	three := api.Z{Neg: true, Mag: append([]uint32{3}, make([]uint32, 1<<18)...)}
	list := []api.G{{Re: long, Im: three}, {Re: three, Im: long}, {Re: nought, Im: three}, {Re: nought, Im: nought}, {Re: long, Im: long}}
	for _, c := range calls() {
		for _, x := range list {
			for _, y := range list {
				want, wantRest := c.play(canon(fresh(x)), canon(fresh(y)))
				if numbers, rest := c.play(x, y); !allAlike(numbers, want) || rest != wantRest {
					t.Errorf("%s of long numbers: the form makes a difference", c.name)
				}
			}
		}
	}
}
