package frac_test

import (
	"fmt"
	"strconv"
	"strings"
	"testing"

	"tessel/api"
	"tessel/frac"
	"tessel/proof"
	"tessel/zint"
)

func TestText(t *testing.T) { // P3.3
	smalls(30, func(n, d int64) {
		lowest := proof.Low(n, d)
		num, _ := zint.Int(lowest.Num)
		den, _ := zint.Int(lowest.Den)
		want := strconv.FormatInt(num, 10)
		if den != 1 {
			want += "/" + strconv.FormatInt(den, 10)
		}
		for _, a := range []api.Q{q(n, d), proof.Longer(q(n, d))} {
			if got, e := frac.Text(a); got != want || e != api.OK {
				t.Errorf("Text(%d/%d): %s, error %d, want %s", n, d, got, e, want)
			}
		}
	})
	long := api.Q{Num: zint.Neg(proof.Power2(64)), Den: zint.Add(proof.Power2(65), z(1))}
	for _, a := range proof.QForms(long) {
		if got, e := frac.Text(a); got != "-18446744073709551616/36893488147419103233" || e != api.OK {
			t.Errorf("Text(%v): %s, error %d", a, got, e)
		}
	}
}

func TestParse(t *testing.T) { // P3.3
	for _, c := range []struct {
		s    string
		want api.Q
	}{
		{"0", q(0, 1)}, {"-0", q(0, 1)}, {"7", q(7, 1)}, {"-007", q(-7, 1)}, {"0/5", q(0, 1)}, {"-0/5", q(0, 1)}, {"6/4", q(3, 2)}, {"-6/4", q(-3, 2)}, {"-03/06", q(-1, 2)}, {"12/3", q(4, 1)}, {"3/1", q(3, 1)}, {"5/005", q(1, 1)}, {"1/0000000000000000000000002", q(1, 2)},
		{"18446744073709551616", api.Q{Num: proof.Power2(64), Den: z(1)}}, {"-1/18446744073709551616", api.Q{Num: z(-1), Den: proof.Power2(64)}}, {"36893488147419103232/18446744073709551616", q(2, 1)},
	} {
		got, e := frac.Parse(c.s)
		proof.Taken(t, "Parse("+c.s+")", got, e, c.want)
	}
}

func TestParseRefused(t *testing.T) { // P3.3
	for _, s := range []string{
		"", "-", "/", "//", "-/", "/2", "-/2", "1/", "-1/", "0/", "1/2/3", "1//2", "1/2/", "/1/2", "1/0/2", "1/-2", "1/+2", "+1", "+1/2", "--1", "1/--2", "1/-", "1/-0", "-1/-2", "0/-0", "1-/2", "1/2-", "1/2-3", "1 /2", "1/ 2", " 1/2", "1/2 ", "1\\2", "1:2", "1/2i", "1.5", "1/2.0", "1e3", "0x1/2", "1/0x2", "a", "a/b", "1/a", "a/1", "1_0/2", "1∕2", "½", "１/2", "1/\x00", "1/2\n", "\xff", "x/0", "/0", "-/0", "1/0x", "+1/0", " 1/0",
	} {
		got, e := frac.Parse(s)
		proof.Refused(t, fmt.Sprintf("Parse(%q)", s), got, e, api.ErrSyntax)
	}
	for _, s := range []string{"1/0", "0/0", "-0/0", "-1/0", "007/000", "0/0000000000000000000000000000"} {
		got, e := frac.Parse(s)
		proof.Refused(t, fmt.Sprintf("Parse(%q)", s), got, e, api.ErrZero)
	}
}

func TestParseLimits(t *testing.T) { // P3.3: texts of MaxText bytes and one more, the - and the / among them
	noughts := func(n int) string { return strings.Repeat("0", n) }
	half := api.MaxText / 2
	for s, want := range map[string]api.Q{
		noughts(api.MaxText-1) + "5": q(5, 1), "-" + noughts(api.MaxText-2) + "5": q(-5, 1), "5/" + noughts(api.MaxText-3) + "7": q(5, 7),
		"-6/" + noughts(api.MaxText-4) + "4": q(-3, 2), "-" + noughts(api.MaxText-4) + "1/3": q(-1, 3), "-" + noughts(half-3) + "4/" + noughts(half-1) + "2": q(-2, 1),
	} {
		got, e := frac.Parse(s)
		proof.Taken(t, fmt.Sprint(len(s), " bytes, ", s[:2], ".."), got, e, want)
		// One nought more behind the sign, or behind the /.
		for _, ahead := range []string{"-", "/"} {
			if at := strings.Index(s, ahead) + 1; at > 0 {
				got, e = frac.Parse(s[:at] + "0" + s[at:])
				proof.Refused(t, fmt.Sprint(len(s)+1, " bytes, ", s[:2], ".."), got, e, api.ErrLimit)
			}
		}
	}
	for _, s := range []string{noughts(api.MaxText + 1), "1/" + noughts(api.MaxText-1), strings.Repeat("x", api.MaxText+1), strings.Repeat("/", api.MaxText+1), "1/-" + noughts(api.MaxText), noughts(half) + "/" + noughts(half), "1/2" + strings.Repeat(" ", 3*api.MaxText)} {
		got, e := frac.Parse(s)
		proof.Refused(t, fmt.Sprintf("%d bytes, %s..", len(s), s[:3]), got, e, api.ErrLimit)
	}
	for _, s := range []string{noughts(api.MaxText-1) + "x", strings.Repeat("/", api.MaxText), "1/-" + noughts(api.MaxText-3), noughts(api.MaxText-1) + "/", "/" + noughts(api.MaxText-1)} {
		got, e := frac.Parse(s)
		proof.Refused(t, fmt.Sprintf("%d bytes, %s..", len(s), s[:3]), got, e, api.ErrSyntax)
	}
	got, e := frac.Parse("1/" + noughts(api.MaxText-2))
	proof.Refused(t, "a denominator of noughts", got, e, api.ErrZero)
}

func TestParseLongest(t *testing.T) { // P3.3: both numbers as long as they may be
	nines := strings.Repeat("9", api.MaxText/2-1)
	// A number and the next one have no common divisor; 3 times a number over it is 3.
	s := nines[1:] + "8/" + nines
	got, e := frac.Parse(s)
	if text, _ := frac.Text(got); e != api.OK || text != s {
		t.Errorf("Parse of %d bytes: another text, error %d", len(s), e)
	}
	got, e = frac.Parse("-" + nines + "/" + strings.Repeat("3", len(nines)))
	proof.Taken(t, "-99../33..", got, e, q(-3, 1))
}

func TestParseOfText(t *testing.T) { // P3.4
	d, ok := proof.Dice(9), proof.Must[api.Q](t)
	for range 500 {
		a := d.Q(12)
		text, _ := frac.Text(a)
		got, e := frac.Parse(text)
		proof.Taken(t, "Parse("+text+")", got, e, ok(frac.Make(a.Num, a.Den)))
	}
}
