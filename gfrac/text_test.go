package gfrac_test

import (
	"cmp"
	"fmt"
	"regexp"
	"strings"
	"testing"

	"tessel/api"
	"tessel/frac"
	"tessel/gfrac"
	"tessel/gint"
	"tessel/proof"
	"tessel/zint"
)

func TestText(t *testing.T) { // P7.3
	for _, c := range []struct {
		re, im api.Q
		want   string
	}{
		{q(0, 1), q(0, 1), "0"}, {q(1, 1), q(0, 1), "1"}, {q(-1, 1), q(0, 1), "-1"}, {q(1, 2), q(0, 1), "1/2"}, {q(-1, 2), q(0, 5), "-1/2"}, {q(-2, 4), q(0, -3), "-1/2"}, {q(12, -4), q(0, 1), "-3"},
		{q(0, 1), q(1, 1), "i"}, {q(0, 1), q(-1, 1), "-i"}, {q(0, 3), q(2, 1), "2i"}, {q(0, -3), q(-2, 1), "-2i"}, {q(0, 1), q(1, 2), "1/2i"}, {q(0, 1), q(-1, 2), "-1/2i"}, {q(0, 1), q(3, -3), "-i"}, {q(0, 1), q(-4, -4), "i"},
		{q(1, 1), q(-1, 1), "1-i"}, {q(1, 1), q(1, -1), "1-i"}, {q(1, 2), q(-3, 4), "1/2-3/4i"}, {q(-1, 2), q(3, 4), "-1/2+3/4i"}, {q(-1, 2), q(-3, 4), "-1/2-3/4i"}, {q(1, 3), q(1, 1), "1/3+i"}, {q(1, 3), q(-1, 1), "1/3-i"}, {q(-10, 1), q(1, 10), "-10+1/10i"}, {q(5, 1), q(11, 1), "5+11i"}, {q(5, 1), q(-11, 1), "5-11i"}, {q(5, 1), q(1, 11), "5+1/11i"}, {q(5, 1), q(10, 1), "5+10i"},
		{api.Q{Num: zint.Neg(proof.Power2(64)), Den: z(3)}, api.Q{Num: z(1), Den: proof.Power2(65)}, "-18446744073709551616/3+1/36893488147419103232i"},
	} {
		for _, a := range forms(api.C{Re: c.re, Im: c.im}) {
			got, e := gfrac.Text(a)
			proof.Taken(t, fmt.Sprintf("Text(%v)", a), got, e, c.want)
		}
	}
	for _, a := range noughts() {
		got, e := gfrac.Text(a)
		proof.Taken(t, fmt.Sprintf("Text(%v)", a), got, e, "0")
	}
}

func TestTextOfWhole(t *testing.T) { // P7.3: of a Gaussian integer it is gint's
	d := proof.Dice(7)
	for range 200 {
		a := d.G(3)
		got, e := gfrac.Text(gfrac.Of(a))
		proof.Taken(t, "Text of "+proof.Show(a), got, e, gint.Text(a))
	}
}

func TestTextOfParts(t *testing.T) { // P7.3: both parts are told as frac's
	d := proof.Dice(8)
	for range 200 {
		re, im := api.Q{Num: zint.Add(proof.Power2(200), d.Z(3)), Den: d.ZNotZero(4)}, api.Q{Num: zint.Add(proof.Power2(100), zint.Abs(d.Z(3))), Den: zint.Add(proof.Power2(50), zint.Abs(d.Z(2)))}
		reText, _ := frac.Text(re)
		imText, _ := frac.Text(im)
		got, e := gfrac.Text(api.C{Re: re, Im: im})
		proof.Taken(t, "Text", got, e, reText+"+"+imText+"i")
		got, e = gfrac.Text(api.C{Re: re, Im: api.Q{Num: zint.Neg(im.Num), Den: im.Den}})
		proof.Taken(t, "Text", got, e, reText+"-"+imText+"i")
	}
}

func reads(t *testing.T, s string, want api.C) {
	t.Helper()
	got, e := gfrac.Parse(s)
	proof.Taken(t, fmt.Sprintf("Parse(%.50q)", s), got, e, want)
}

func refuses(t *testing.T, s string, want api.Errno) {
	t.Helper()
	got, e := gfrac.Parse(s)
	proof.Refused(t, fmt.Sprintf("Parse(%.50q), %d bytes", s, len(s)), got, e, want)
}

func TestParse(t *testing.T) { // P7.3
	for _, c := range []struct {
		s      string
		re, im api.Q
	}{
		{"0", q(0, 1), q(0, 1)}, {"-0", q(0, 1), q(0, 1)}, {"0i", q(0, 1), q(0, 1)}, {"-0/7-0i", q(0, 1), q(0, 1)}, {"0/3+00/4i", q(0, 1), q(0, 1)},
		{"7", q(7, 1), q(0, 1)}, {"-007", q(-7, 1), q(0, 1)}, {"6/4", q(3, 2), q(0, 1)}, {"-06/004", q(-3, 2), q(0, 1)}, {"8/4", q(2, 1), q(0, 1)},
		{"i", q(0, 1), q(1, 1)}, {"-i", q(0, 1), q(-1, 1)}, {"1i", q(0, 1), q(1, 1)}, {"-1i", q(0, 1), q(-1, 1)}, {"2/4i", q(0, 1), q(1, 2)}, {"-2/4i", q(0, 1), q(-1, 2)}, {"007i", q(0, 1), q(7, 1)},
		{"1+i", q(1, 1), q(1, 1)}, {"1-i", q(1, 1), q(-1, 1)}, {"-1+i", q(-1, 1), q(1, 1)}, {"-1-i", q(-1, 1), q(-1, 1)}, {"1/2-3/4i", q(1, 2), q(-3, 4)}, {"-3/6+i", q(-1, 2), q(1, 1)}, {"-3/6-3/9i", q(-1, 2), q(-1, 3)}, {"0+i", q(0, 1), q(1, 1)}, {"0-1/2i", q(0, 1), q(-1, 2)}, {"12/5+0/9i", q(12, 5), q(0, 1)}, {"1/3+12i", q(1, 3), q(12, 1)}, {"3-1/2i", q(3, 1), q(-1, 2)},
		{"-1/18446744073709551616+36893488147419103232/18446744073709551616i", api.Q{Num: z(-1), Den: proof.Power2(64)}, q(2, 1)},
	} {
		reads(t, c.s, api.C{Re: c.re, Im: c.im})
	}
}

func TestParseRefused(t *testing.T) { // P7.3
	for _, s := range []string{
		"", "-", "+", "/", "+1", "+i", "+1i", "+1/2", "+1/2i", "1+", "1-", "1/2+", "1/2-", "-+i", "--i", "+-i", "1++i", "1+-i", "1-+i", "1--i", "1+-2i", "--1", "1+1", "1-1", "3/2-1/2", "1/2+1/3", "i+1", "i-1", "1/2i+3", "i+i", "2i+2i", "ii", "i1", "i2", "i/2", "-i/2", "1+i/2", "1i/2", "1/i", "-/2", "/2", "/2i", "-/2i", "/i", "1+/2i", "1+/i", "1+1/i", "1/", "1/i+1", "1//2", "1//2i", "1/2/3", "1/2/3i", "1+1/2/3i", "1/-2", "1/+2", "1/-2i", "1/+2i", "1+1/-2i", "1+1/+2i", "1/2 i", " i", "i ", "1 + i", "1/ 2", "1 /2", "I", "j", "1+j", "1/2I", "1.5", "1.5i", "1e3", "0x1", "1_0", "½", "１", "1/2*i", "(1+i)", "1\x00", "\xffi", "i\n", "−i", "nan", "inf", "NaN", "a", "ai", "1+ai", "a+i", "1+i+i", "1+2+3i", "1/2+3/4i5", "1:2", "1;2", ".i", ",i",
	} {
		refuses(t, s, api.ErrSyntax)
	}
	for _, s := range []string{"1/0", "-1/0", "0/0", "-0/00", "1/0i", "-1/0i", "0/0i", "1/0+i", "1/0-i", "1/0+1/2i", "1/2+1/0i", "1+1/00i", "-1-7/000i", "1/0+1/0i", "1/0-2/0i", "1/0-0i", "0+0/0i"} {
		refuses(t, s, api.ErrZero)
	}
	// The form of the whole text comes ahead of a 0 behind a /.
	for _, s := range []string{"1/0+", "1/0x", "1/0+1", "1/0+1/i", "1/0+/2i", "1/0/1i", "1/0 i", "x+1/0i", "1/+1/0i", "+1/0i", "+1/0", "1//0i", "1+1+1/0i", "1/0i+1", "1/0ii", "1/0+-i"} {
		refuses(t, s, api.ErrSyntax)
	}
}

// formsByWords are the forms that P7.3 tells: a rational, one and an imaginary part, an imaginary part alone.
func formsByWords() []*regexp.Regexp {
	rational := `(?P<reSign>-?)(?P<re>[0-9]+)(/(?P<reDen>[0-9]+))?`
	imaginary := `((?P<im>[0-9]+)(/(?P<imDen>[0-9]+))?)?(?P<i>i)`
	return []*regexp.Regexp{
		regexp.MustCompile(`\A` + rational + `\z`),
		regexp.MustCompile(`\A` + rational + `(?P<imSign>[+-])` + imaginary + `\z`),
		regexp.MustCompile(`\A(?P<imSign>-?)` + imaginary + `\z`),
	}
}

// readBy reads a text of one of the forms.
func readBy(forms []*regexp.Regexp, s string) (api.C, api.Errno) {
	found := map[string]string{}
	for _, form := range forms {
		for i, text := range form.FindStringSubmatch(s) {
			found[form.SubexpNames()[i]] = text
		}
	}
	if len(found) == 0 {
		return api.C{}, api.ErrSyntax
	}
	noDigits := map[string]string{"": "0", "i": "1"}[found["i"]]
	part := func(sign, num, den string) (api.Q, api.Errno) {
		top, _ := zint.Parse(strings.TrimPrefix(sign, "+") + num)
		bottom, _ := zint.Parse(cmp.Or(den, "1"))
		return frac.Make(top, bottom)
	}
	re, reError := part(found["reSign"], cmp.Or(found["re"], "0"), found["reDen"])
	im, imError := part(found["imSign"], cmp.Or(found["im"], noDigits), found["imDen"])
	if reError != api.OK || imError != api.OK {
		return api.C{}, api.ErrZero
	}
	return api.C{Re: re, Im: im}, api.OK
}

// TestParseOfAllShort: of all texts of at most 6 of these signs those are taken that are of one of the forms.
func TestParseOfAllShort(t *testing.T) { // P7.3
	list, forms := []string{""}, formsByWords()
	for from := 0; len(list[from]) < 6; from++ {
		for _, sign := range "02+-i/" {
			list = append(list, list[from]+string(sign))
		}
	}
	told := map[api.Errno]int{}
	for _, s := range list {
		want, wantError := readBy(forms, s)
		told[wantError]++
		got, e := gfrac.Parse(s)
		if e != wantError || !proof.Alike(got, want) {
			t.Errorf("Parse(%q): %v, error %d, want %v, error %d", s, got, e, want, wantError)
		}
	}
	if told[api.OK] < 500 || told[api.ErrZero] < 50 || told[api.ErrSyntax] < 5000 {
		t.Errorf("of %d texts: %v", len(list), told)
	}
}

func TestParseLimits(t *testing.T) { // P7.3: texts of MaxText bytes and one more
	noughts := strings.Repeat("0", api.MaxText-8)
	for s, want := range map[string]api.C{
		noughts + "00000005": small{5, 0, 1}.whole(), "-" + noughts + "0000005": small{-5, 0, 1}.whole(), noughts + "0000005i": small{0, 5, 1}.whole(), "-5/" + noughts + "0007i": small{0, -5, 7}.whole(),
		"1/2-5/" + noughts + "3i": {Re: q(1, 2), Im: q(-5, 3)}, "1/" + noughts + "0002+i": {Re: q(1, 2), Im: q(1, 1)}, "-" + noughts + "007/2-i": {Re: q(-7, 2), Im: q(-1, 1)}, noughts + "000000-i": small{0, -1, 1}.whole(),
	} {
		if len(s) != api.MaxText {
			t.Fatalf("%d bytes, not a text of MaxText", len(s))
		}
		reads(t, s, want)
		refuses(t, "0"+s, api.ErrLimit)
		refuses(t, s+"i", api.ErrLimit)
	}
	half := strings.Repeat("0", api.MaxText/2)
	for _, s := range []string{half + half + "0", half + "+" + half + "i", half + "/" + half, "1/" + half + half, strings.Repeat("i", api.MaxText+1), strings.Repeat("x", 2*api.MaxText), half + "1+" + half + "1x", "1/0+" + half + half} {
		refuses(t, s, api.ErrLimit)
	}
	for _, s := range []string{noughts + "0000000x", strings.Repeat("-", api.MaxText), strings.Repeat("i", api.MaxText), strings.Repeat("/", api.MaxText), noughts + "1/2+1/i"} {
		refuses(t, s, api.ErrSyntax)
	}
	refuses(t, "1/"+noughts+"00000i", api.ErrZero)
	nines := strings.Repeat("9", api.MaxText/4-2)
	longest := nines[1:] + "8/" + nines + "-" + nines + "/" + nines[1:] + "8i"
	got, e := gfrac.Parse(longest)
	if text, _ := gfrac.Text(got); e != api.OK || text != longest {
		t.Errorf("Parse of %d bytes: another text, error %d", len(longest), e)
	}
}

func TestParseOfText(t *testing.T) { // P7.4
	d, p := proof.Dice(9), parts{proof.Must[api.Q](t)}
	for _, x := range smalls(4, 1, 2, 3) {
		text, _ := gfrac.Text(x.whole())
		reads(t, text, x.whole())
	}
	for range 400 {
		a := some(&d, 8)
		text, _ := gfrac.Text(a)
		reads(t, text, p.lowest(a))
	}
}
