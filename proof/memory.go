package proof

import "tessel/api"

// places tells where each item of a value's lists lies, the spare room's too.
func places(v any) []any {
	var all []any
	if l := listOf(v); l != nil {
		all = l.places()
	}
	for _, part := range parts(v) {
		all = append(all, places(part)...)
	}
	return all
}

// rooms tells a value's lists, each with its spare room.
func rooms(v any) []any {
	var all []any
	if l := listOf(v); l != nil {
		all = append(all, l.room())
	}
	for _, part := range parts(v) {
		all = append(all, rooms(part)...)
	}
	return all
}

// scribble writes over the digits and the numbers of a value's lists, and over their spare room.
func scribble(v any) {
	// All places are told ahead: what a list held is not found any more once that list is written over.
	for _, place := range places(v) {
		switch x := place.(type) {
		case *uint32:
			*x = ^*x
		case *int:
			*x = ^*x
		case *api.Z:
			*x = api.Z{}
		case *api.G:
			*x = api.G{}
		case *api.Q:
			*x = api.Q{}
		case *api.C:
			*x = api.C{}
		case *[]api.G:
			*x = nil
		case *[]uint32:
			*x = nil
		}
	}
}

// folded tells a value of the same kind whose lists share the first one's memory.
func folded(v any) any {
	switch x := v.(type) {
	case api.G:
		return api.G{Re: x.Re, Im: upper(x.Re)}
	case api.Q:
		return api.Q{Num: x.Num, Den: upper(x.Num)}
	case api.C:
		return api.C{Re: x.Re, Im: x.Re}
	}
	if l := listOf(v); l != nil {
		return l.repeated()
	}
	return v
}

// upper shows the upper half of a number's digits.
func upper(a api.Z) api.Z { return api.Z{Neg: !a.Neg, Mag: a.Mag[len(a.Mag)/2:]} }
