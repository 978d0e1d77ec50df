package proof

import "tessel/api"

// anyList is a list, whatever its items are.
type anyList interface {
	parts() []any
	// room is the list with its spare room, places are where each item of that lies.
	room() any
	places() []any
	rebuilt(number func(a api.Z) api.Z) any
	// repeated is a list of the same length that holds the first item everywhere, folded itself.
	repeated() any
}

type list[L ~[]E, E any] struct{ items L }

func of[L ~[]E, E any](items L) anyList { return list[L, E]{items} }

// listOf tells a list of one of the kinds that are known; of what is none it tells nil. Further kinds are added here.
func listOf(v any) anyList {
	switch x := v.(type) {
	case []any:
		return of(x)
	case api.M:
		return of(x)
	case [][]uint32:
		return of(x)
	case []uint32:
		return of(x)
	case []int:
		return of(x)
	case []api.Z:
		return of(x)
	case []api.G:
		return of(x)
	case []api.Q:
		return of(x)
	case []api.C:
		return of(x)
	}
	return nil
}

func (l list[L, E]) parts() []any {
	all := make([]any, len(l.items))
	for i, v := range l.items {
		all[i] = v
	}
	return all
}

func (l list[L, E]) room() any { return l.items[:cap(l.items)] }

func (l list[L, E]) places() []any {
	room := l.items[:cap(l.items)]
	var all []any
	for i := range room {
		all = append(all, &room[i])
	}
	return all
}

func (l list[L, E]) rebuilt(number func(a api.Z) api.Z) any {
	if l.items == nil {
		return l.items
	}
	all := make(L, len(l.items), len(l.items)+3)
	for i, v := range l.items {
		all[i] = rebuilt(v, number).(E)
	}
	return all
}

func (l list[L, E]) repeated() any {
	all := make(L, len(l.items))
	if len(all) == 0 {
		return all
	}
	first := folded(l.items[0]).(E)
	for i := range all {
		all[i] = first
	}
	return all
}
