// Package proof: what the tests of all packages lean on: numbers in every form, and a look at what calls do with memory. No package of the program calls it.
package proof

import (
	"math"
	"strconv"
	"strings"

	"tessel/api"
)

// parts tells what a value is made of: of a plain one nothing.
func parts(v any) []any {
	switch x := v.(type) {
	case api.Z:
		return []any{x.Neg, x.Mag}
	case api.G:
		return []any{x.Re, x.Im}
	case api.Q:
		return []any{x.Num, x.Den}
	case api.C:
		return []any{x.Re, x.Im}
	case nil, bool, int, int64, uint32, string, float64, api.Errno:
		return nil
	}
	if l := listOf(v); l != nil {
		return l.parts()
	}
	panic("proof does not know a value's kind")
}

// Show tells a value as it lies there: each form of a number has a text of its own, nil and the empty list have one.
func Show(v any) string {
	switch x := v.(type) {
	case bool:
		return strconv.FormatBool(x)
	case int:
		return strconv.Itoa(x)
	case int64:
		return strconv.FormatInt(x, 10)
	case uint32:
		return strconv.FormatUint(uint64(x), 10)
	case string:
		return strconv.Quote(x)
	case api.Errno:
		return x.Error()
	case float64:
		return strconv.FormatUint(math.Float64bits(x), 16)
	}
	var texts []string
	for _, part := range parts(v) {
		texts = append(texts, Show(part))
	}
	return "(" + strings.Join(texts, " ") + ")"
}

// Alike tells whether two values are one, as they lie there.
func Alike(a, b any) bool { return Show(a) == Show(b) }

// Fresh tells the same value in memory of its own, with room to spare behind each list that is not nil.
func Fresh[V any](v V) V { return rebuilt(v, roomy).(V) }

// Longer tells the same value in another form: numbers with digits 0 at the top, 0 with the other sign.
func Longer[V any](v V) V { return rebuilt(v, longer).(V) }

// Canon tells the same value in the form in which it is answered.
func Canon[V any](v V) V { return rebuilt(v, canon).(V) }

func roomy(a api.Z) api.Z {
	if a.Mag == nil {
		return a
	}
	spare := []uint32{0xdeadbeef, 0, 0xcafe}
	all := append(append([]uint32{}, a.Mag...), spare...)
	return api.Z{Neg: a.Neg, Mag: all[:len(a.Mag)]}
}

func longer(a api.Z) api.Z {
	zero := len(canon(a).Mag) == 0
	return api.Z{Neg: a.Neg != zero, Mag: append(append([]uint32{}, a.Mag...), 0, 0)}
}

func canon(a api.Z) api.Z { return Number(a.Neg, append([]uint32{}, a.Mag...)...) }

// rebuilt tells a value whose numbers went through a function, and whose lists are new.
func rebuilt(v any, number func(a api.Z) api.Z) any {
	switch x := v.(type) {
	case api.Z:
		return number(x)
	case []uint32:
		return number(api.Z{Mag: x}).Mag
	case api.G:
		return api.G{Re: number(x.Re), Im: number(x.Im)}
	case api.Q:
		return api.Q{Num: number(x.Num), Den: number(x.Den)}
	case api.C:
		return api.C{Re: rebuilt(x.Re, number).(api.Q), Im: rebuilt(x.Im, number).(api.Q)}
	}
	if l := listOf(v); l != nil {
		return l.rebuilt(number)
	}
	return v
}

// isZero tells whether it is its kind's zero value, or a list without items.
func isZero(v any) bool {
	switch x := v.(type) {
	case bool:
		return !x
	case int:
		return x == 0
	case int64:
		return x == 0
	case string:
		return x == ""
	case float64:
		return Show(x) == "0"
	case api.Z, api.G, api.Q, api.C:
		for _, part := range parts(v) {
			if !isZero(part) {
				return false
			}
		}
		return true
	}
	return len(parts(v)) == 0
}
