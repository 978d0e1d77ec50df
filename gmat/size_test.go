package gmat_test

import (
	"fmt"
	"math"
	"testing"

	"tessel/api"
	"tessel/gmat"
	"tessel/proof"
)

func TestGood(t *testing.T) { // P8.1
	for _, a := range samples() {
		for _, m := range a.forms {
			if !gmat.Good(m) {
				t.Errorf("Good(%s): false", show(m))
			}
			height, width, e := gmat.Size(m)
			proof.Taken(t, "Size of "+show(m), []int{height, width}, e, []int{len(a.rows), a.Width()})
		}
	}
	if !gmat.Good(nil) || !gmat.Good(api.M{nil}) || !gmat.Good(api.M{{}, nil}) {
		t.Error("Good: rows without memory")
	}
}

func TestCrooked(t *testing.T) { // P8.1
	for _, m := range proof.Crooked() {
		if gmat.Good(m) {
			t.Errorf("Good(%s): true", show(m))
		}
		height, width, e := gmat.Size(m)
		proof.Refused(t, "Size of "+show(m), []int{}, e, api.ErrShape)
		if height != 0 || width != 0 {
			t.Errorf("Size of %s: %d, %d beside an error", show(m), height, width)
		}
	}
}

func TestIdent(t *testing.T) { // P8.1
	for n := 0; n <= api.MaxSize; n++ {
		got, e := gmat.Ident(n)
		want := proof.Made(n, n, func(i, j int) complex128 { return map[bool]complex128{true: 1}[i == j] })
		taken(t, fmt.Sprint("Ident ", n), got, e, want.Whole())
	}
	for _, n := range []int{-1, -2, -api.MaxSize, -api.MaxSize - 1, math.MinInt} {
		got, e := gmat.Ident(n)
		proof.Refused(t, fmt.Sprint("Ident ", n), got, e, api.ErrArg)
	}
	for _, n := range []int{api.MaxSize + 1, api.MaxSize + 2, 1 << 32, math.MaxInt} {
		got, e := gmat.Ident(n)
		proof.Refused(t, fmt.Sprint("Ident ", n), got, e, api.ErrLimit)
	}
}

// others are good matrices to be laid beside one that is not.
func others(m api.M) []api.M {
	list := []api.M{nil, {{}}, proof.Matrix([]complex128{1, 2}, []complex128{3, 1i}), make(api.M, min(len(m), api.MaxSize))}
	for _, n := range []int{len(m), len(m[0]), len(m[len(m)-1])} {
		one, _ := gmat.Ident(min(n, api.MaxSize))
		list = append(list, one)
	}
	return list
}

// callsOfOne are the calls that make a matrix of one; rows that it does not have are asked for too.
func callsOfOne() map[string]func(m api.M) (api.M, api.Errno) {
	return map[string]func(m api.M) (api.M, api.Errno){
		"Scale":                 func(m api.M) (api.M, api.Errno) { return gmat.Scale(m, g(2, 1)) },
		"Scale by 0":            func(m api.M) (api.M, api.Errno) { return gmat.Scale(m, api.G{}) },
		"Trans":                 gmat.Trans,
		"Adj":                   gmat.Adj,
		"Gram":                  gmat.Gram,
		"AddRow":                func(m api.M) (api.M, api.Errno) { return gmat.AddRow(m, 0, 1, g(2, 1)) },
		"AddRow to itself":      func(m api.M) (api.M, api.Errno) { return gmat.AddRow(m, 0, 0, g(2, 1)) },
		"AddRow of no row":      func(m api.M) (api.M, api.Errno) { return gmat.AddRow(m, 0, -1, g(2, 1)) },
		"AddRow to no row":      func(m api.M) (api.M, api.Errno) { return gmat.AddRow(m, math.MaxInt, 0, g(2, 1)) },
		"Swap":                  func(m api.M) (api.M, api.Errno) { return gmat.Swap(m, 0, 0) },
		"Swap of no row":        func(m api.M) (api.M, api.Errno) { return gmat.Swap(m, len(m), 0) },
		"Swap of another none":  func(m api.M) (api.M, api.Errno) { return gmat.Swap(m, 0, -5) },
		"Turn":                  func(m api.M) (api.M, api.Errno) { return gmat.Turn(m, 0, 1) },
		"Turn of no row":        func(m api.M) (api.M, api.Errno) { return gmat.Turn(m, -1, 1) },
		"Turn of a row too far": func(m api.M) (api.M, api.Errno) { return gmat.Turn(m, math.MaxInt, 0) },
	}
}

func TestCrookedIsRefused(t *testing.T) { // ErrShape comes ahead of all else, whatever the rest is
	for _, m := range proof.Crooked() {
		for name, play := range callsOfOne() {
			got, e := play(m)
			proof.Refused(t, name+" of "+show(m), got, e, api.ErrShape)
		}
		for name, play := range map[string]func(a, b api.M) (api.M, api.Errno){"Add": gmat.Add, "Sub": gmat.Sub, "Mul": gmat.Mul} {
			for _, other := range append(others(m), m) {
				got, e := play(m, other)
				proof.Refused(t, name+" of "+show(m)+" and "+show(other), got, e, api.ErrShape)
				got, e = play(other, m)
				proof.Refused(t, name+" of "+show(other)+" and "+show(m), got, e, api.ErrShape)
			}
		}
		for _, v := range [][]api.G{nil, make([]api.G, len(m)), make([]api.G, len(m[0])), {g(1, 0)}} {
			got, e := gmat.Times(v, m)
			proof.Refused(t, "Times, and "+show(m), got, e, api.ErrShape)
		}
		text, e := gmat.Text(m)
		proof.Refused(t, "Text of "+show(m), text, e, api.ErrShape)
	}
}
