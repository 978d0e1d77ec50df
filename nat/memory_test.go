package nat_test

import (
	"math"
	"slices"
	"testing"

	"tessel/api"
	"tessel/nat"
)

// call is one of the package's calls, told as the lists that it answers and all else that it answers.
type call struct {
	name string
	play func(a, b []uint32) ([][]uint32, any)
}

func calls() []call {
	one := func(name string, f func(a, b []uint32) []uint32) call {
		return call{name, func(a, b []uint32) ([][]uint32, any) { return [][]uint32{f(a, b)}, nil }}
	}
	with := func(name string, f func(a []uint32, n int) ([]uint32, api.Errno), n int) call {
		return call{name, func(a, b []uint32) ([][]uint32, any) {
			c, e := f(a, n)
			return [][]uint32{c}, e
		}}
	}
	return []call{
		one("Norm", func(a, b []uint32) []uint32 { return nat.Norm(a) }),
		{"Cmp", func(a, b []uint32) ([][]uint32, any) { return nil, nat.Cmp(a, b) }},
		{"Bits", func(a, b []uint32) ([][]uint32, any) { return nil, nat.Bits(a) }},
		one("Add", nat.Add),
		{"Sub", func(a, b []uint32) ([][]uint32, any) {
			c, e := nat.Sub(a, b)
			return [][]uint32{c}, e
		}},
		one("Mul", nat.Mul),
		{"DivMod", func(a, b []uint32) ([][]uint32, any) {
			q, r, e := nat.DivMod(a, b)
			return [][]uint32{q, r}, e
		}},
		with("Shl by 0", nat.Shl, 0), with("Shl by 64", nat.Shl, 64), with("Shl by 5", nat.Shl, 5),
		with("Shr by 0", nat.Shr, 0), with("Shr by 32", nat.Shr, 32), with("Shr by 5", nat.Shr, 5),
		one("Gcd", nat.Gcd),
		with("Pow 0", nat.Pow, 0), with("Pow 1", nat.Pow, 1), with("Pow 3", nat.Pow, 3),
		one("Root", func(a, b []uint32) []uint32 { return nat.Root(a) }),
		{"Text", func(a, b []uint32) ([][]uint32, any) { return nil, nat.Text(a) }},
		{"Parse", func(a, b []uint32) ([][]uint32, any) {
			c, e := nat.Parse(nat.Text(a))
			return [][]uint32{c}, e
		}},
	}
}

// roomy lays the number where room is spare behind it, and tells all of that memory too.
func roomy(a []uint32) (number, all []uint32) {
	all = append(slices.Clone(a), 0xdeadbeef, 0, 0xcafe)
	return all[:len(a)], all
}

func copies(lists [][]uint32) [][]uint32 {
	var c [][]uint32
	for _, l := range lists {
		c = append(c, slices.Clone(l))
	}
	return c
}

func alike(a, b [][]uint32) bool {
	return slices.EqualFunc(a, b, func(x, y []uint32) bool { return slices.Equal(x, y) })
}

// scribble writes over a list and its spare room.
func scribble(a []uint32) {
	a = a[:cap(a)]
	for i := range a {
		a[i] = ^a[i]
	}
}

func samples() [][]uint32 {
	d := dice(13)
	lists := [][]uint32{nil, {}, {0}, {1}, {1, 0}, {0, 0}, {7, 9, 0}, {0, 1}, ones(4)}
	for range 12 {
		lists = append(lists, d.number(6))
	}
	return lists
}

func TestHandedIn(t *testing.T) { // R4: what is handed in, spare room too, is neither changed nor kept
	for _, c := range calls() {
		for _, x := range samples() {
			for _, y := range samples() {
				a, allA := roomy(x)
				b, allB := roomy(y)
				beforeA, beforeB := slices.Clone(allA), slices.Clone(allB)
				lists, rest := c.play(a, b)
				if !slices.Equal(allA, beforeA) || !slices.Equal(allB, beforeB) {
					t.Fatalf("%s(%v, %v) changes what it is handed", c.name, x, y)
				}
				before := copies(lists)
				scribble(a)
				scribble(b)
				if !alike(lists, before) {
					t.Fatalf("%s(%v, %v): the answer changes with what was handed in", c.name, x, y)
				}
				again, restAgain := c.play(slices.Clone(x), slices.Clone(y))
				if !alike(again, before) || rest != restAgain {
					t.Fatalf("%s(%v, %v): another answer, the second time", c.name, x, y)
				}
			}
		}
	}
}

func TestAnswered(t *testing.T) { // R4: what is answered, spare room too, is new memory, and no two lists share any
	for _, c := range calls() {
		for _, x := range samples() {
			for _, y := range samples() {
				a, allA := roomy(x)
				b, allB := roomy(y)
				beforeA, beforeB := slices.Clone(allA), slices.Clone(allB)
				lists, _ := c.play(a, b)
				before := copies(lists)
				for i, l := range lists {
					scribble(l)
					if !slices.Equal(allA, beforeA) || !slices.Equal(allB, beforeB) {
						t.Fatalf("%s(%v, %v): answer %d shares memory with what was handed in", c.name, x, y, i)
					}
					if !alike(lists[i+1:], before[i+1:]) {
						t.Fatalf("%s(%v, %v): answer %d shares memory with another", c.name, x, y, i)
					}
				}
				again, _ := c.play(a, b)
				if !alike(again, before) {
					t.Fatalf("%s(%v, %v): what was answered is kept", c.name, x, y)
				}
			}
		}
	}
}

func TestAnswersApart(t *testing.T) { // R4: room behind a rest is not the quotient's, and the other way round
	q, r, _ := nat.DivMod([]uint32{5, 6, 7, 8, 9, 10}, []uint32{3, 4})
	wantQ, wantR := slices.Clone(q), slices.Clone(r)
	for range 20 {
		_ = append(q, ones(20)...)
		_ = append(r, ones(20)...)
		q, r = q[:cap(q)], r[:cap(r)]
	}
	if !slices.Equal(q[:len(wantQ)], wantQ) || !slices.Equal(r[:len(wantR)], wantR) {
		t.Error("what is appended to one changes the other")
	}
}

func TestOneListTwice(t *testing.T) { // R4: the same list as both arguments, or one that shares its memory
	for _, c := range calls() {
		for _, x := range samples() {
			a := slices.Clone(x)
			lists, rest := c.play(a, a)
			want, wantRest := c.play(slices.Clone(x), slices.Clone(x))
			if !alike(lists, want) || rest != wantRest || !slices.Equal(a, x) {
				t.Errorf("%s(%v, itself): %v %v, want %v %v", c.name, x, lists, rest, want, wantRest)
			}
			part := a[len(a)/2:]
			lists, rest = c.play(a, part)
			want, wantRest = c.play(slices.Clone(x), slices.Clone(part))
			if !alike(lists, want) || rest != wantRest || !slices.Equal(a, x) {
				t.Errorf("%s(%v, a part of it): %v %v, want %v %v", c.name, x, lists, rest, want, wantRest)
			}
		}
	}
}

func TestValue(t *testing.T) { // digits 0 at the top make no difference, and none is answered
	for _, c := range calls() {
		for _, x := range samples() {
			for _, y := range samples() {
				lists, rest := c.play(x, y)
				longer, restLonger := c.play(append(slices.Clone(x), 0, 0, 0), append(slices.Clone(y), 0))
				if !alike(lists, longer) || rest != restLonger {
					t.Errorf("%s(%v, %v): %v %v, with noughts at the top %v %v", c.name, x, y, lists, rest, longer, restLonger)
				}
				for _, l := range lists {
					if len(l) > 0 && l[len(l)-1] == 0 {
						t.Errorf("%s(%v, %v): %v: a digit 0 at the top", c.name, x, y, l)
					}
				}
			}
		}
	}
}

func TestEnds(t *testing.T) { // R1, R2: whatever the counts, each call ends, and an error stands alone
	counts := []int{math.MinInt, math.MinInt + 1, -65537, -65536, -33, -32, -1, 0, 1, 31, 32, 33, 65535, 65536, 65537, 1 << 31, 1 << 62, math.MaxInt - 1, math.MaxInt}
	for _, a := range append(samples(), make([]uint32, 5000), ones(3000)) {
		for _, n := range counts {
			up, e := nat.Shl(a, n)
			if e != api.OK && len(up) != 0 {
				t.Errorf("Shl by %d: error %d, and an answer", n, e)
			}
			down, e := nat.Shr(a, n)
			if e != api.OK && len(down) != 0 {
				t.Errorf("Shr by %d: error %d, and an answer", n, e)
			}
			power, e := nat.Pow(a, n)
			if e != api.OK && len(power) != 0 {
				t.Errorf("Pow %d: error %d, and an answer", n, e)
			}
		}
	}
}
