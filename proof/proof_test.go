package proof

import (
	"fmt"
	"slices"
	"strings"
	"testing"

	"tessel/api"
)

// listener is told the faults that are looked for.
type listener struct{ faults []string }

func (l *listener) Helper() {}

func (l *listener) Errorf(format string, args ...any) {
	l.faults = append(l.faults, fmt.Sprintf(format, args...))
}

var numbers = []api.G{{}, G(1, 0), G(-7, 3), {Re: Power2(40), Im: Z(-1)}, {Re: api.Z{Neg: true, Mag: []uint32{5, 6, 0}}, Im: api.Z{Neg: true}}}

// played tells the faults of a call of two Gaussian integers.
func played(play func(a, b api.G) []any) string {
	l := &listener{}
	Check(l, []Call{Two("it", play)}, Pairs(numbers))
	return strings.Join(l.faults, "\n")
}

func TestGoodCalls(t *testing.T) {
	for _, play := range []func(a, b api.G) []any{
		func(a, b api.G) []any { return All() },
		func(a, b api.G) []any { return All(Canon(a), Canon(b), 7, "text", api.OK) },
		func(a, b api.G) []any { return All([]api.G{Canon(a), Canon(b)}, api.M{{Canon(b)}, {}}, api.OK) },
		func(a, b api.G) []any { return All(api.G{}, "", 0, api.ErrArg) },
	} {
		if faults := played(play); faults != "" {
			t.Errorf("faults of a call that has none:\n%s", faults)
		}
	}
}

func TestBadCalls(t *testing.T) {
	kept := map[string]api.G{}
	first := map[string]bool{}
	for want, plays := range map[string][]func(a, b api.G) []any{
		"changes what it is handed": {
			func(a, b api.G) []any { clear(a.Im.Mag); return All() },
			func(a, b api.G) []any { _ = append(b.Re.Mag, 9); return All() },
			func(a, b api.G) []any { slices.Reverse(a.Re.Mag[:cap(a.Re.Mag)]); return All() },
		},
		"answers memory that another list has": {
			func(a, b api.G) []any { return All(a.Im) },
			func(a, b api.G) []any { return All(a.Re.Mag[len(a.Re.Mag):]) },
			func(a, b api.G) []any { c := Canon(a); return All([]api.G{c, c}) },
			func(a, b api.G) []any { row := []api.G{Canon(b), {}}; return All(row[:1], row[1:]) },
			func(a, b api.G) []any { row := []api.G{Canon(b)}; return All(api.M{row, row}) },
			func(a, b api.G) []any { row := []api.G{{}}; return All(api.M{row[:0], row}) },
		},
		"at the second time": {
			func(a, b api.G) []any {
				if _, ok := kept[Show(Canon(a))]; !ok {
					kept[Show(Canon(a))] = Canon(a)
				}
				return All(kept[Show(Canon(a))])
			},
			func(a, b api.G) []any {
				again := first[Show(a)]
				first[Show(a)] = true
				return All(again)
			},
		},
		"where memory is shared": {
			func(a, b api.G) []any {
				return All(len(a.Re.Mag) > 0 && len(b.Re.Mag) > 0 && &a.Re.Mag[0] == &b.Re.Mag[0])
			},
			func(a, b api.G) []any {
				n, m := len(a.Re.Mag), len(a.Im.Mag)
				return All(n > 0 && m > 0 && &a.Re.Mag[n-1] == &a.Im.Mag[m-1])
			},
		},
		"of another form": {
			func(a, b api.G) []any { return All(len(a.Im.Mag)) },
			func(a, b api.G) []any { return All(b.Re.Neg) },
		},
		"is not canonical": {
			func(a, b api.G) []any { return All(Longer(Canon(a))) },
			func(a, b api.G) []any { return All(api.Q{Num: api.Z{Neg: true}, Den: Z(1)}) },
			func(a, b api.G) []any { return All([]api.G{{Im: api.Z{Mag: []uint32{0}}}}) },
		},
		"beside an error": {
			func(a, b api.G) []any { return All(1, api.ErrArg) },
			func(a, b api.G) []any { return All(api.ErrArg, []int{0}) },
			func(a, b api.G) []any { return All(G(0, 1), api.ErrArg) },
			func(a, b api.G) []any { return All(true, "", api.ErrArg) },
		},
	} {
		for i, play := range plays {
			if faults := played(play); !strings.Contains(faults, want) {
				t.Errorf("call %d that %q: its faults are told as\n%s", i, want, faults)
			}
		}
	}
}

func TestForms(t *testing.T) {
	for _, a := range append(Noughts(), Z(1), Z(-1), Z(1<<40), Power2(95), api.Z{Mag: []uint32{3, 0}}) {
		form := Longer(a)
		if n := len(form.Mag); n < 2 || form.Mag[n-1] != 0 || !Alike(Canon(form), Canon(a)) {
			t.Errorf("Longer(%v): %v", a, form)
		}
		if len(Canon(a).Mag) == 0 && Alike(form, a) && !a.Neg {
			t.Errorf("Longer(%v): no other form", a)
		}
		if b := Fresh(a); !Alike(a, b) || a.Mag != nil && cap(b.Mag) < len(a.Mag)+3 {
			t.Errorf("Fresh(%v): %v", a, b)
		}
	}
	m := api.M{{G(1, 2), G(0, -3)}, {}}
	if !Alike(Fresh(m), m) || !Alike(Canon(Longer(m)), m) || Alike(Longer(m), m) {
		t.Error("forms of a matrix")
	}
	if Alike(Z(0), api.Z{Neg: true}) || Alike(Z(3), api.Z{Mag: []uint32{3, 0}}) || !Alike([]api.G{}, []api.G(nil)) || Alike([]int{1, 1}, []int{11}) {
		t.Error("Alike")
	}
}

func TestDice(t *testing.T) {
	d, e := Dice(1), Dice(1)
	long, zero := false, false
	for range 200 {
		a := d.G(4)
		if !Alike(a, e.G(4)) || isZero(Canon(d.GNotZero(1))) || isZero(Canon(d.ZNotZero(1))) {
			t.Error("Dice")
		}
		e = d
		long = long || len(a.Re.Mag) > 0 && a.Re.Mag[len(a.Re.Mag)-1] == 0
		zero = zero || len(Canon(a.Im).Mag) == 0
	}
	if !long || !zero {
		t.Error("Dice: some kinds of numbers do not come")
	}
}
