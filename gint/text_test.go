package gint_test

import (
	"fmt"
	"math"
	"strings"
	"testing"

	"tessel/api"
	"tessel/gint"
	"tessel/proof"
	"tessel/zint"
)

func TestText(t *testing.T) { // P4.6
	for _, c := range []struct {
		a    small
		want string
	}{
		{small{0, 0}, "0"}, {small{1, 0}, "1"}, {small{-1, 0}, "-1"}, {small{0, 1}, "i"}, {small{0, -1}, "-i"},
		{small{12, 0}, "12"}, {small{-12, 0}, "-12"}, {small{0, 12}, "12i"}, {small{0, -12}, "-12i"}, {small{0, 2}, "2i"}, {small{0, -2}, "-2i"},
		{small{1, 1}, "1+i"}, {small{1, -1}, "1-i"}, {small{-1, 1}, "-1+i"}, {small{-1, -1}, "-1-i"},
		{small{3, -2}, "3-2i"}, {small{3, 2}, "3+2i"}, {small{-3, 2}, "-3+2i"}, {small{-3, -2}, "-3-2i"}, {small{10, 10}, "10+10i"},
		{small{math.MinInt64, math.MinInt64}, "-9223372036854775808-9223372036854775808i"}, {small{math.MaxInt64, 1 << 32}, "9223372036854775807+4294967296i"},
	} {
		for _, a := range proof.Forms(c.a.whole()) {
			if got := gint.Text(a); got != c.want {
				t.Errorf("Text(%v): %s, want %s", a, got, c.want)
			}
		}
	}
	for _, a := range proof.GNoughts() {
		if got := gint.Text(a); got != "0" {
			t.Errorf("Text(%v): %s, want 0", a, got)
		}
	}
}

func TestTextOfLong(t *testing.T) { // P4.6
	d := proof.Dice(10)
	for range 300 {
		a := api.G{Re: d.Z(12), Im: zint.Add(proof.Power2(33), zint.Abs(d.Z(12)))}
		re := zint.Text(a.Re)
		if re == "0" {
			continue
		}
		im := zint.Text(a.Im)
		down := api.G{Re: a.Re, Im: zint.Neg(a.Im)}
		for _, c := range []struct {
			a    api.G
			want string
		}{{a, re + "+" + im + "i"}, {down, re + "-" + im + "i"}, {api.G{Im: a.Im}, im + "i"}, {api.G{Im: down.Im}, "-" + im + "i"}, {api.G{Re: a.Re}, re}} {
			if got := gint.Text(c.a); got != c.want {
				t.Errorf("Text(%v): %s, want %s", c.a, got, c.want)
			}
		}
	}
}

func TestParse(t *testing.T) { // P4.6
	for _, c := range []struct {
		s    string
		want small
	}{
		{"0", small{0, 0}}, {"-0", small{0, 0}}, {"000", small{0, 0}}, {"0i", small{0, 0}}, {"-0i", small{0, 0}}, {"0+0i", small{0, 0}}, {"-0-00i", small{0, 0}},
		{"7", small{7, 0}}, {"-7", small{-7, 0}}, {"007", small{7, 0}}, {"-007", small{-7, 0}}, {"1", small{1, 0}}, {"-1", small{-1, 0}},
		{"i", small{0, 1}}, {"-i", small{0, -1}}, {"1i", small{0, 1}}, {"-1i", small{0, -1}}, {"5i", small{0, 5}}, {"-05i", small{0, -5}}, {"00012i", small{0, 12}},
		{"1+i", small{1, 1}}, {"1-i", small{1, -1}}, {"-1+i", small{-1, 1}}, {"-1-i", small{-1, -1}}, {"0+i", small{0, 1}}, {"0-i", small{0, -1}}, {"-0-i", small{0, -1}},
		{"3-2i", small{3, -2}}, {"3+2i", small{3, 2}}, {"-3-2i", small{-3, -2}}, {"-3+02i", small{-3, 2}}, {"007-01i", small{7, -1}}, {"12+0i", small{12, 0}}, {"12-0i", small{12, 0}}, {"0+12i", small{0, 12}},
		{"-9223372036854775808+9223372036854775807i", small{math.MinInt64, math.MaxInt64}},
	} {
		got, e := gint.Parse(c.s)
		proof.Taken(t, "Parse("+c.s+")", got, e, c.want.whole())
	}
}

func TestParseRefused(t *testing.T) { // P4.6
	for _, s := range []string{
		"", "-", "+", "+1", "+i", "+1i", "+1+i", "1+", "1-", "-1+", "-+i", "+-i", "--i", "--1", "--", "++", "1++i", "1+-i", "1-+i", "1--i", "3+-2i", "3-+2i", "3--2i",
		"i2", "2i3", "ii", "1ii", "i1i", "-i1", "i+", "i-", "i+1", "2i+3", "i-1", "i+i", "2i+2i", "1+2", "1-2", "1+2+3i", "1+2-3i", "1+i+i", "1+2i3", "1+i2", "1+2ii", "1+2i+", "1+2i ", " 1", "1 ", " i", "i ", "1 +i", "1+ i", "1+i ", "1 i", "- i", "- 1",
		"I", "1+I", "j", "1+2j", "1*i", "1+2*i", "1/2", "1/2i", "1.5", "1.5i", "1e3", "1_0", "0x1", "0x1i", "a", "1a", "1+a", "1+ai", "a+i", "i\n", "\x00", "1\x00i", "\xffi", "−i", "–1", "1−i", "１", "١i", "ı", "/i", ":i", "/", ":", ",", "1,i", "(1+i)",
	} {
		got, e := gint.Parse(s)
		proof.Refused(t, fmt.Sprintf("Parse(%q)", s), got, e, api.ErrSyntax)
	}
}

// TestParseOfAllShort: of all texts of at most 5 of these signs those are taken that are of one of the forms.
func TestParseOfAllShort(t *testing.T) { // P4.6
	list := []string{""}
	for from := 0; len(list[from]) < 5; from++ {
		for _, sign := range "09+-i/ " {
			list = append(list, list[from]+string(sign))
		}
	}
	for _, s := range list {
		got, e := gint.Parse(s)
		if re, im, ok := split(s); ok {
			proof.Taken(t, fmt.Sprintf("Parse(%q)", s), got, e, g(re, im))
		} else {
			proof.Refused(t, fmt.Sprintf("Parse(%q)", s), got, e, api.ErrSyntax)
		}
	}
}

// split reads a text from its end: what stands from the last sign on is the imaginary part, if an i ends it.
func split(s string) (re, im int64, ok bool) {
	ahead, isImaginary := strings.CutSuffix(s, "i")
	if !isImaginary {
		return whole(s)
	}
	at := max(strings.LastIndexAny(ahead, "+-"), 0)
	real, amount := ahead[:at], ahead[at:]
	if real != "" {
		if re, _, ok = whole(real); !ok {
			return 0, 0, false
		}
		amount = strings.TrimPrefix(amount, "+")
	}
	if amount == "" || amount == "-" {
		amount += "1"
	}
	im, _, ok = whole(amount)
	return re, im, ok
}

// whole reads a whole number by hand; the second answer is 0.
func whole(s string) (n, zero int64, ok bool) {
	digits, neg := strings.CutPrefix(s, "-")
	for _, c := range []byte(digits) {
		if c < '0' || c > '9' {
			return 0, 0, false
		}
		n = 10*n + int64(c-'0')
	}
	if neg {
		n = -n
	}
	return n, 0, digits != ""
}

func TestParseLimits(t *testing.T) { // P4.6: texts of MaxText bytes and one more
	noughts := strings.Repeat("0", api.MaxText-4)
	for s, want := range map[string]small{noughts + "0007": {7, 0}, "-" + noughts + "005": {-5, 0}, "-" + noughts + "05i": {0, -5}, noughts + "007i": {0, 7}, "3-" + noughts + "5i": {3, -5}, "-" + noughts + "4+i": {-4, 1}, "-8+" + noughts + "i": {-8, 0}} {
		if len(s) != api.MaxText {
			t.Fatal("not a text of MaxText bytes")
		}
		got, e := gint.Parse(s)
		proof.Taken(t, fmt.Sprint(len(s), " bytes"), got, e, want.whole())
		got, e = gint.Parse("0" + s)
		proof.Refused(t, fmt.Sprint(len(s)+1, " bytes"), got, e, api.ErrLimit)
	}
	for _, s := range []string{noughts + "000i2", noughts + "00+-i", strings.Repeat("x", api.MaxText+1), strings.Repeat("-", api.MaxText+1), noughts + noughts + "i"} {
		got, e := gint.Parse(s)
		proof.Refused(t, fmt.Sprint(len(s), " bytes"), got, e, api.ErrLimit)
	}
	for _, s := range []string{noughts + "00i2", noughts + "0+-i", noughts + "+00-", strings.Repeat("-", api.MaxText), strings.Repeat("i", api.MaxText)} {
		got, e := gint.Parse(s)
		proof.Refused(t, fmt.Sprint(len(s), " bytes"), got, e, api.ErrSyntax)
	}
	nines := strings.Repeat("9", api.MaxText/2-1)
	for _, s := range []string{nines + "-" + nines + "i", "-" + nines + nines + "i"} {
		if got, e := gint.Parse(s); e != api.OK || gint.Text(got) != s {
			t.Errorf("%d bytes, %s..: error %d", len(s), s[:3], e)
		}
	}
}

func TestParseOfText(t *testing.T) { // P4.6, P4.7
	d := proof.Dice(11)
	for _, x := range square(12) {
		got, e := gint.Parse(gint.Text(x.whole()))
		proof.Taken(t, fmt.Sprint("Parse(Text of ", x, ")"), got, e, x.whole())
	}
	for range 300 {
		a := d.G(12)
		got, e := gint.Parse(gint.Text(a))
		proof.Taken(t, fmt.Sprintf("Parse(Text(%v))", a), got, e, proof.Canon(a))
	}
}
