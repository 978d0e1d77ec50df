package zint_test

import (
	"fmt"
	"math"
	"strconv"
	"strings"
	"testing"

	"tessel/api"
	"tessel/nat"
	"tessel/proof"
	"tessel/zint"
)

func TestText(t *testing.T) { // P2.4
	for _, n := range append(smalls(), math.MaxInt64, math.MinInt64) {
		for _, a := range []api.Z{z(n), proof.Longer(z(n))} {
			if got := zint.Text(a); got != strconv.FormatInt(n, 10) {
				t.Errorf("Text(%v): %s, want %d", a, got, n)
			}
		}
	}
	for _, a := range proof.Noughts() {
		if got := zint.Text(a); got != "0" {
			t.Errorf("Text(%v): %s, want 0", a, got)
		}
	}
	d := proof.Dice(9)
	for range 300 {
		a := d.ZNotZero(12)
		want := nat.Text(a.Mag)
		if a.Neg {
			want = "-" + want
		}
		if got := zint.Text(a); got != want {
			t.Errorf("Text(%v): %s, want %s", a, got, want)
		}
	}
}

func TestParse(t *testing.T) { // P2.4
	for _, c := range []struct {
		s    string
		want api.Z
	}{
		{"0", z(0)}, {"-0", z(0)}, {"000", z(0)}, {"-000000000000000000000000", z(0)}, {"7", z(7)}, {"-7", z(-7)}, {"-007", z(-7)}, {"007", z(7)}, {"9223372036854775808", proof.Power2(63)}, {"-9223372036854775808", z(math.MinInt64)}, {"18446744073709551616", proof.Power2(64)}, {"-18446744073709551616", minus(proof.Power2(64))},
	} {
		got, e := zint.Parse(c.s)
		proof.Taken(t, "Parse("+c.s+")", got, e, c.want)
	}
	for _, s := range []string{
		"", "-", "--1", "--", "+1", "+", "-+1", "+-1", "1-", "-1-", "1-2", " 1", "-1 ", "- 1", " -1", "1 2", "-a", "12a", "0x10", "-0x1", "1_000", "1e3", "1.0", "-1/2", "−1", "–1", "\x00", "-1\n", "١", "\xff", "-/", "-:",
	} {
		got, e := zint.Parse(s)
		proof.Refused(t, fmt.Sprintf("Parse(%q)", s), got, e, api.ErrSyntax)
	}
}

func TestParseLimits(t *testing.T) { // P2.4: texts of MaxText bytes and one more, the - among them
	noughts := strings.Repeat("0", api.MaxText-2)
	for s, want := range map[string]int64{noughts + "05": 5, "-" + noughts + "5": -5, "-" + noughts + "0": 0} {
		got, e := zint.Parse(s)
		proof.Taken(t, fmt.Sprint(len(s), " bytes"), got, e, z(want))
	}
	nines := strings.Repeat("9", api.MaxText-1)
	for _, s := range []string{"-" + nines, "9" + nines} {
		got, e := zint.Parse(s)
		if e != api.OK || zint.Text(got) != s {
			t.Errorf("%d bytes, %s..: error %d", len(s), s[:3], e)
		}
	}
	for _, s := range []string{noughts + "005", "-" + noughts + "05", "-9" + nines, "99" + nines, "--" + nines, strings.Repeat("x", api.MaxText+1), strings.Repeat("-", api.MaxText+1)} {
		got, e := zint.Parse(s)
		proof.Refused(t, fmt.Sprintf("%d bytes, %s..", len(s), s[:3]), got, e, api.ErrLimit)
	}
	for _, s := range []string{"-" + noughts + "x", noughts + "0x", "--" + noughts, strings.Repeat("-", api.MaxText)} {
		got, e := zint.Parse(s)
		proof.Refused(t, fmt.Sprintf("%d bytes, %s..", len(s), s[:3]), got, e, api.ErrSyntax)
	}
}

func TestParseOfText(t *testing.T) { // P2.4
	d := proof.Dice(10)
	for range 500 {
		a := d.Z(20)
		got, e := zint.Parse(zint.Text(a))
		proof.Taken(t, fmt.Sprintf("Parse(Text(%v))", a), got, e, proof.Canon(a))
	}
}
