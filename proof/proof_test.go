package proof

import (
	"fmt"
	"slices"
	"strings"
	"testing"

	"tessel/api"
	"tessel/zint"
)

// listener is told the faults that are looked for.
type listener struct{ faults []string }

func (l *listener) Helper() {}

func (l *listener) Errorf(format string, args ...any) {
	l.faults = append(l.faults, fmt.Sprintf(format, args...))
}

var numbers = []api.G{{}, G(1, 0), G(-7, 3), {Re: Power2(40), Im: Z(-1)}, {Re: api.Z{Neg: true, Mag: []uint32{5, 6, 0}}, Im: api.Z{Neg: true}}}

// played tells the faults of a call of two Gaussian integers.
func played(play func(a, b api.G) []any) string {
	l := &listener{}
	// Some of the calls write over their arguments: each has its own.
	Check(l, []Call{Two("it", play)}, Pairs(Fresh(numbers)))
	return strings.Join(l.faults, "\n")
}

func TestGoodCalls(t *testing.T) {
	for _, play := range []func(a, b api.G) []any{
		func(a, b api.G) []any { return All() },
		func(a, b api.G) []any { return All(Canon(a), Canon(b), 7, "text", api.OK) },
		func(a, b api.G) []any { return All([]api.G{Canon(a), Canon(b)}, api.M{{Canon(b)}, {}}, api.OK) },
		func(a, b api.G) []any { return All(api.G{}, "", 0, api.ErrArg) },
	} {
		if faults := played(play); faults != "" {
			t.Errorf("faults of a call that has none:\n%s", faults)
		}
	}
}

func TestBadCalls(t *testing.T) {
	kept := map[string]api.G{}
	first := map[string]bool{}
	for want, plays := range map[string][]func(a, b api.G) []any{
		"changes what it is handed": {
			func(a, b api.G) []any { clear(a.Im.Mag); return All() },
			func(a, b api.G) []any { _ = append(b.Re.Mag, 9); return All() },
			func(a, b api.G) []any { slices.Reverse(a.Re.Mag[:cap(a.Re.Mag)]); return All() },
		},
		"answers memory that another list has": {
			func(a, b api.G) []any { return All(a.Im) },
			func(a, b api.G) []any { return All(a.Re.Mag[len(a.Re.Mag):]) },
			func(a, b api.G) []any { c := Canon(a); return All([]api.G{c, c}) },
			func(a, b api.G) []any { row := []api.G{Canon(b), {}}; return All(row[:1], row[1:]) },
			func(a, b api.G) []any { row := []api.G{Canon(b)}; return All(api.M{row, row}) },
			func(a, b api.G) []any { row := []api.G{{}}; return All(api.M{row[:0], row}) },
		},
		"at the second time": {
			func(a, b api.G) []any {
				if _, ok := kept[Show(Canon(a))]; !ok {
					kept[Show(Canon(a))] = Canon(a)
				}
				return All(kept[Show(Canon(a))])
			},
			func(a, b api.G) []any {
				again := first[Show(a)]
				first[Show(a)] = true
				return All(again)
			},
		},
		"where memory is shared": {
			func(a, b api.G) []any {
				return All(len(a.Re.Mag) > 0 && len(b.Re.Mag) > 0 && &a.Re.Mag[0] == &b.Re.Mag[0])
			},
			func(a, b api.G) []any {
				n, m := len(a.Re.Mag), len(a.Im.Mag)
				return All(n > 0 && m > 0 && &a.Re.Mag[n-1] == &a.Im.Mag[m-1])
			},
		},
		"of another form": {
			func(a, b api.G) []any { return All(len(a.Im.Mag)) },
			func(a, b api.G) []any { return All(b.Re.Neg) },
		},
		"is not canonical": {
			func(a, b api.G) []any { return All(Longer(Canon(a))) },
			func(a, b api.G) []any { return All(api.Q{Num: api.Z{Neg: true}, Den: Z(1)}) },
			func(a, b api.G) []any { return All([]api.G{{Im: api.Z{Mag: []uint32{0}}}}) },
		},
		"beside an error": {
			func(a, b api.G) []any { return All(1, api.ErrArg) },
			func(a, b api.G) []any { return All(api.ErrArg, []int{0}) },
			func(a, b api.G) []any { return All(G(0, 1), api.ErrArg) },
			func(a, b api.G) []any { return All(true, "", api.ErrArg) },
		},
	} {
		for i, play := range plays {
			if faults := played(play); !strings.Contains(faults, want) {
				t.Errorf("call %d that %q: its faults are told as\n%s", i, want, faults)
			}
		}
	}
}

func TestRefusedCalls(t *testing.T) {
	for want, answers := range map[string][]any{
		"":                                  All(api.Z{}, []int{}, api.ErrShape),
		"is (() error 10), and not error 4": All([]int{}, api.ErrNone),
		"is (3 error 0), and not error 4":   All(3, api.OK),
		"is 3 beside an error":              All(3, api.ErrShape),
		"is true beside an error":           All("", true, api.ErrShape),
	} {
		l := &listener{}
		CheckRefused(l, []Call{One("it", func(a api.G) []any { return answers })}, All(G(1, 2)), api.ErrShape)
		if faults := strings.Join(l.faults, "\n"); !strings.Contains(faults, want) || want == "" && faults != "" {
			t.Errorf("a call that is refused, and %q: its faults are told as\n%s", want, faults)
		}
	}
}

func TestManyArguments(t *testing.T) {
	kinds := []api.G{{}, G(1, 2), G(-7, 3)}
	lists := Lists(kinds, 3)
	if len(lists) != 27 || Show(lists[0]) != Show([]any{api.G{}, api.G{}, api.G{}}) || Show(lists[5]) != Show([]any{api.G{}, G(1, 2), G(-7, 3)}) || Show(lists[26]) != Show([]any{G(-7, 3), G(-7, 3), G(-7, 3)}) {
		t.Errorf("lists of three: %v", lists)
	}
	Is(t, "Both", Show(Both([]int{1, 2}, []string{"a", "b"})[2]), Show(All(2, "a")))
	meet := func(a, b api.Z) bool { return len(a.Mag) > 0 && len(b.Mag) > 0 && &a.Mag[0] == &b.Mag[0] }
	for want, play := range map[string]func(a []api.G) []any{
		"":                       func(a []api.G) []any { return All(Canon(a[2]), len(a)) },
		"where memory is shared": func(a []api.G) []any { return All(meet(a[1].Re, a[2].Re)) },
		"changes what":           func(a []api.G) []any { clear(a[2].Im.Mag); return All() },
	} {
		l := &listener{}
		Check(l, []Call{Many("it", 3, play)}, Lists(Fresh(kinds), 3))
		if faults := strings.Join(l.faults, "\n"); !strings.Contains(faults, want) || want == "" && faults != "" {
			t.Errorf("a call of three that %q: its faults are told as\n%s", want, faults)
		}
	}
}

func TestSharedRows(t *testing.T) {
	meet := func(a, b api.Z) bool { return len(a.Mag) > 0 && len(b.Mag) > 0 && &a.Mag[0] == &b.Mag[0] }
	for want, play := range map[string]func(m api.M) []any{
		"":                       func(m api.M) []any { return All(Canon(m), len(m)) },
		"where memory is shared": func(m api.M) []any { return All(len(m) > 0 && len(m[0]) > 1 && meet(m[0][0].Re, m[0][1].Re)) },
		"is (true) where memory": func(m api.M) []any { return All(len(m) > 1 && len(m[1]) > 0 && &m[0][0] == &m[1][0]) },
		"changes what":           func(m api.M) []any { clear(m); return All() },
		"answers memory":         func(m api.M) []any { return All(append(api.M{}, m...)) },
	} {
		// One of the calls writes over its arguments: each has its own.
		samples := Lists([]api.M{nil, {{}}, Matrix([]complex128{1 + 2i, 3}, []complex128{4, 5i})}, 1)
		l := &listener{}
		Check(l, []Call{One("it", play)}, samples)
		if faults := strings.Join(l.faults, "\n"); !strings.Contains(faults, want) || want == "" && faults != "" {
			t.Errorf("a call of a matrix that %q: its faults are told as\n%s", want, faults)
		}
	}
}

func TestLooks(t *testing.T) {
	for want, looks := range map[int][]func(l T){
		0: {
			func(l T) { Is(l, "it", Z(3), Z(3)) },
			func(l T) { Taken(l, "it", []api.G{}, api.OK, nil) },
			func(l T) { Refused(l, "it", api.G{}, api.ErrNone, api.ErrNone) },
			func(l T) { Refused(l, "it", []uint32{}, api.ErrNone, api.ErrNone) },
			func(l T) { Is(l, "it", Must[api.Z](l)(Z(3), api.OK), Z(3)) },
		},
		1: {
			func(l T) { Is(l, "it", Z(3), Z(4)) },
			func(l T) { Is(l, "it", Longer(Z(3)), Z(3)) },
			func(l T) { Taken(l, "it", Z(3), api.OK, Z(4)) },
			func(l T) { Taken(l, "it", Z(3), api.ErrNone, Z(3)) },
			func(l T) { Refused(l, "it", api.Z{}, api.OK, api.ErrNone) },
			func(l T) { Refused(l, "it", api.Z{}, api.ErrZero, api.ErrNone) },
			func(l T) { Refused(l, "it", Z(1), api.ErrNone, api.ErrNone) },
			func(l T) { Must[api.Z](l)(Z(3), api.ErrNone) },
			func(l T) { Refused(l, "it", api.Z{Neg: true}, api.ErrNone, api.ErrNone) },
		},
	} {
		for i, look := range looks {
			l := &listener{}
			look(l)
			if len(l.faults) != want {
				t.Errorf("look %d of those that tell %d faults: %v", i, want, l.faults)
			}
		}
	}
}

func TestForms(t *testing.T) {
	for _, a := range append(Noughts(), Z(1), Z(-1), Z(1<<40), Power2(95), api.Z{Mag: []uint32{3, 0}}) {
		form := Longer(a)
		if n := len(form.Mag); n < 2 || form.Mag[n-1] != 0 || !Alike(Canon(form), Canon(a)) {
			t.Errorf("Longer(%v): %v", a, form)
		}
		if len(Canon(a).Mag) == 0 && Alike(form, a) && !a.Neg {
			t.Errorf("Longer(%v): no other form", a)
		}
		if b := Fresh(a); !Alike(a, b) || a.Mag != nil && cap(b.Mag) < len(a.Mag)+3 {
			t.Errorf("Fresh(%v): %v", a, b)
		}
	}
	m := api.M{{G(1, 2), G(0, -3)}, {}}
	if !Alike(Fresh(m), m) || !Alike(Canon(Longer(m)), m) || Alike(Longer(m), m) {
		t.Error("forms of a matrix")
	}
	if Alike(Z(0), api.Z{Neg: true}) || Alike(Z(3), api.Z{Mag: []uint32{3, 0}}) || !Alike([]api.G{}, []api.G(nil)) || Alike([]int{1, 1}, []int{11}) {
		t.Error("Alike")
	}
}

func TestGaussianForms(t *testing.T) {
	for _, a := range append(numbers, GNoughts()...) {
		forms := Forms(a)
		for i, form := range forms {
			if !Alike(Canon(form), Canon(a)) {
				t.Errorf("Forms(%v): %v has another value", a, form)
			}
			for _, other := range forms[:i] {
				if Alike(form, other) {
					t.Errorf("Forms(%v): %v comes twice", a, form)
				}
			}
		}
	}
	for _, nought := range GNoughts() {
		if !isZero(Canon(nought)) {
			t.Errorf("GNoughts: %v", nought)
		}
	}
}

func TestRationals(t *testing.T) {
	Is(t, "Q", Q(-6, 4), api.Q{Num: Z(-6), Den: Z(4)})
	Is(t, "Low", Low(-6, -4), Q(3, 2))
	Is(t, "Low, of a Den below 0", Low(6, -4), Q(-3, 2))
	Is(t, "Low of 0", Low(0, -7), Q(0, 1))
	for _, a := range []api.Q{Q(-3, 4), Q(-15, 20), Q(3, -4)} {
		forms := QForms(a)
		for i, form := range forms {
			if !isMinus3By4(form) {
				t.Errorf("QForms(%v): %v has another value", a, form)
			}
			for _, other := range forms[:i] {
				if Alike(form, other) {
					t.Errorf("QForms(%v): %v comes twice", a, form)
				}
			}
		}
	}
	for _, a := range Hollows() {
		if !isZero(Canon(a.Den)) {
			t.Errorf("Hollows: %v", a)
		}
	}
}

// isMinus3By4 tells whether a rational is -3/4, by products across.
func isMinus3By4(a api.Q) bool {
	return Alike(zint.Mul(a.Num, Z(4)), zint.Mul(a.Den, Z(-3)))
}

func TestMachine(t *testing.T) {
	Is(t, "Whole", Whole(-3+7i), G(-3, 7))
	Is(t, "Conj", Whole(Conj(2-5i)), G(2, 5))
	Is(t, "Norm", Norm(3-4i), 25.0)
	for a, want := range map[complex128]bool{0: true, 5: true, 3 + 4i: true, 2 - 1i: false, 1: false, 2 + 2i: false, -1 + 2i: true} {
		Is(t, "Divides", Divides(2+1i, a), want)
	}
	for i, a := range []complex128{0, -1, -1i, 1i, 1, 1 - 1i, 1 + 1i, -2} {
		for j, b := range []complex128{0, -1, -1i, 1i, 1, 1 - 1i, 1 + 1i, -2} {
			Is(t, "Compare", Compare(a, b), max(-1, min(1, i-j)))
		}
	}
	for _, a := range []complex128{0, 2 + 1i, -1 + 2i, -2 - 1i, 1 - 2i} {
		Is(t, "Associate", Whole(Associate(a)), Whole(Associate(-1i*a)))
		Is(t, "Associate", Norm(Associate(a)-(2+1i)) == 0, a != 0)
	}
	Is(t, "Residue", Vector(Residue(7+3i, 2), Residue(5, 1+1i), Residue(3, 1i)), Vector(-1-1i, -1i, 0))
	Is(t, "Gcd", Vector(Gcd(4, 6i), Gcd(1+1i, 3), Gcd(), Gcd(0, -5i), Gcd(10, 6+2i, 8)), Vector(2, 1, 0, 5, 2))
	Is(t, "Machine", Machine(api.G{Re: Power2(40), Im: api.Z{Neg: true, Mag: []uint32{7, 1, 0}}}) == 1<<40-(1<<32+7)*1i, true)
	list := Square(2)
	if len(list) != 25 || !slices.Contains(list, -2+2i) || len(slices.Compact(list)) != 25 {
		t.Errorf("Square(2): %v", list)
	}
}

func TestMatrices(t *testing.T) {
	Is(t, "Vector", Vector(1, -2i), []api.G{G(1, 0), G(0, -2)})
	Is(t, "Matrix", Matrix([]complex128{1 + 2i}, nil, []complex128{0, -3}), api.M{{G(1, 2)}, {}, {G(0, 0), G(-3, 0)}})
	Is(t, "Blank", Blank(2, 3), Rows{{0, 0, 0}, {0, 0, 0}}.Whole())
	Is(t, "Blank", Show(Blank(2, 0)), Show(api.M{{}, {}}))
	Is(t, "Told", Told(nil, api.M{{G(1, 2), Longer(G(0, -3))}, {}}), "0 rows: and 2 rows: 1+2i -3i;;")
	if text := Told(Blank(9, 9)); strings.Count(text, " 0") != 64 || strings.Count(text, ";") != 8 {
		t.Errorf("Told: %s", text)
	}
	for _, m := range Crooked() {
		even := true
		for _, row := range m {
			even = even && len(row) == len(m[0])
		}
		if even && len(m) <= api.MaxSize && len(m[0]) <= api.MaxSize {
			t.Errorf("Crooked: a good matrix of %d rows", len(m))
		}
	}
	d := Dice(3)
	seen := map[complex128]bool{}
	for _, row := range d.Rows(40, 10, 1) {
		for _, x := range row {
			seen[x] = true
		}
	}
	for _, x := range Square(1) {
		if !seen[x] {
			t.Errorf("Rows: no %v comes", x)
		}
	}
	if m := d.M(2, 3, 4); len(seen) != 9 || len(m) != 2 || len(m[0]) != 3 || len(m[1]) != 3 || Alike(m[0], m[1]) {
		t.Errorf("Rows: %v; M: %v", seen, m)
	}
}

func TestRows(t *testing.T) {
	a, b := Rows{{1, 2i}, {0, -3}, {1i, 1}}, Rows{{1, 1i}, {2, 0}}
	for _, c := range []struct {
		what      string
		got, want Rows
	}{
		{"Times", a.Times(b), Rows{{1 + 4i, 1i}, {-6, 0}, {2 + 1i, -1}}}, {"Times of no rows", Rows{}.Times(b), nil},
		{"Plus", b.Plus(Rows{{0, 2i}, {0, -3}}), Rows{{1, 3i}, {2, -3}}}, {"Scaled", b.Scaled(1i), Rows{{1i, -1}, {2i, 0}}}, {"Copied", b.Copied(), b},
		{"Turned", b.Turned(), Rows{{1, 2}, {1i, 0}}}, {"Conjugated", b.Conjugated(), Rows{{1, -1i}, {2, 0}}}, {"Gram", b.Gram(), Rows{{2, 2}, {2, 4}}},
	} {
		Is(t, c.what, c.got.Whole(), c.want.Whole())
	}
	if Rows(nil).Width() != 0 || a.Width() != 2 || Dot(a[0], a[2]) != 1i {
		t.Errorf("Width: %d, Dot: %v", a.Width(), Dot(a[0], a[2]))
	}
	forms := a.Forms()
	for i, m := range forms {
		Is(t, "Forms", Canon(m), a.Whole())
		if i > 0 && Alike(m, forms[i-1]) || Alike(m, forms[(i+2)%3]) {
			t.Errorf("Forms: %d is another one", i)
		}
	}
}

func TestDeterminants(t *testing.T) {
	a := Rows{{1, 2i, 3}, {0, 2, -1i}, {1i, 1, 4}}
	Is(t, "Det", Vector(a.Det(), Rows{}.Det(), Rows{{1, 2}, {1i, 0}}.Det()), Vector(8-3i, 1, -2i))
	Is(t, "Without", Without(a, 1, 0).Whole(), Rows{{2i, 3}, {1, 4}}.Whole())
	Is(t, "Dets", Vector(a[:2].Dets(2)...), Vector(2, -1i, -4))
	for want, a := range []Rows{{{0, 0}}, {{2, 1i}, {-2i, 1}}, {{1, 0, 2}, {0, 1, 3}, {1, 1, 5}}} {
		Is(t, "Rank", a.Rank(), want)
	}
	for _, c := range []struct {
		a, b Rows
		want bool
	}{
		{Rows{{2, 0}, {0, 3}}, Rows{{4i, 3}}, true}, {Rows{{2, 0}, {0, 3}}, Rows{{4i, 3}, {2, 1}}, false}, {Rows{{2, 2}}, Rows{{2i, 2i}}, true},
		{Rows{{2, 2}}, Rows{{2, 0}}, false}, {Rows{{2, 2}}, Rows{{1, 1}}, false}, {nil, Rows{{0, 0}}, true}, {nil, Rows{{0, 1}}, false}, {Rows{{1, 2}}, nil, true},
	} {
		Is(t, "Contains", c.a.Contains(c.b), c.want)
	}
	Is(t, "Seen", Seen(api.M{{G(1, -2), api.G{Re: Power2(50)}}, {}}).Whole(), api.M{{G(1, -2), api.G{Re: Power2(50)}}, {}})
	d := Dice(4)
	for n := range 6 {
		Is(t, "Unimodular", Norm(d.Unimodular(n).Det()), 1.0)
	}
}

func TestMixed(t *testing.T) {
	d := Dice(5)
	small := func() api.G { return Whole(d.Small(2)) }
	for n := range 5 {
		a := d.Rows(n, 3, 2)
		m := a.Whole()
		mixed := d.Mixed(m, small)
		Is(t, "what is mixed", m, a.Whole())
		if b := Seen(mixed); len(b) != n || !a.Contains(b) || !b.Contains(a) || n > 1 && Alike(mixed, m) {
			t.Errorf("Mixed of %v: %v", a, b)
		}
	}
}

func TestDice(t *testing.T) {
	d, e := Dice(1), Dice(1)
	long, zero, below := false, false, false
	for range 200 {
		a := d.G(4)
		if !Alike(a, e.G(4)) || isZero(Canon(d.GNotZero(1))) || isZero(Canon(d.ZNotZero(1))) {
			t.Error("Dice")
		}
		long = long || len(a.Re.Mag) > 0 && a.Re.Mag[len(a.Re.Mag)-1] == 0
		zero = zero || len(Canon(a.Im).Mag) == 0
		q := d.Q(2)
		below = below || q.Den.Neg
		if isZero(Canon(q.Den)) {
			t.Errorf("a rational over 0: %v", q)
		}
		e = d
	}
	if !long || !zero || !below {
		t.Error("Dice: some kinds of numbers do not come")
	}
}
