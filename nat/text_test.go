package nat_test

import (
	"fmt"
	"strings"
	"testing"

	"tessel/api"
	"tessel/nat"
	"tessel/proof"
)

func TestText(t *testing.T) { // P1.5
	for _, c := range []struct {
		a    []uint32
		want string
	}{
		{nil, "0"}, {[]uint32{0, 0}, "0"}, {[]uint32{1}, "1"}, {[]uint32{10}, "10"}, {[]uint32{999999999}, "999999999"}, {[]uint32{1000000000, 0}, "1000000000"}, {[]uint32{1000000001}, "1000000001"},
		{ones(1), "4294967295"}, {[]uint32{0, 1}, "4294967296"}, {[]uint32{2808348672, 232830643}, "1000000000000000000"}, {[]uint32{2808348671, 232830643}, "999999999999999999"}, {ones(2), "18446744073709551615"}, {[]uint32{0, 0, 1, 0}, "18446744073709551616"},
	} {
		if got := nat.Text(c.a); got != c.want {
			t.Errorf("Text(%v): %s, want %s", c.a, got, c.want)
		}
	}
	d := dice(11)
	for range 500 {
		a := d.number(12)
		if got, want := nat.Text(a), slowOf(a).text(); got != want {
			t.Errorf("Text(%v): %s, want %s", a, got, want)
		}
	}
}

func TestTextTens(t *testing.T) { // P1.5: groups that are all noughts or all nines
	for n := range 120 {
		ten, _ := nat.Pow([]uint32{10}, n)
		if got := nat.Text(ten); got != "1"+strings.Repeat("0", n) {
			t.Errorf("Text(10^%d): %s", n, got)
		}
		if below, _ := nat.Sub(ten, []uint32{1}); n > 0 && nat.Text(below) != strings.Repeat("9", n) {
			t.Errorf("Text(10^%d - 1): %s", n, nat.Text(below))
		}
		got, e := nat.Parse("1" + strings.Repeat("0", n))
		proof.Taken(t, fmt.Sprint("Parse(10^", n, ")"), got, e, ten)
	}
}

func TestParse(t *testing.T) { // P1.5
	for _, c := range []struct {
		s    string
		want []uint32
	}{
		{"0", nil}, {"000", nil}, {"0000000000000000000000", nil}, {"7", []uint32{7}}, {"007", []uint32{7}}, {"0004294967296", []uint32{0, 1}}, {"4294967295", ones(1)}, {"18446744073709551615", ones(2)}, {"18446744073709551616", []uint32{0, 0, 1}},
	} {
		got, e := nat.Parse(c.s)
		proof.Taken(t, "Parse("+c.s+")", got, e, c.want)
	}
	for _, s := range []string{
		"", "+1", "-1", "-", "+", " 1", "1 ", "1 2", "12a", "a12", "1_000", "0x10", "1e3", "1.0", "1/2", "1:2", "\x00", "1\n", "١", "1١", "\xff", "123456789/", "1234567890:", "/123456789", ":123456789",
	} {
		got, e := nat.Parse(s)
		proof.Refused(t, fmt.Sprintf("Parse(%q)", s), got, e, api.ErrSyntax)
	}
}

func TestParseLimits(t *testing.T) { // P1.5
	noughts := strings.Repeat("0", 65535)
	got, e := nat.Parse(noughts + "5")
	proof.Taken(t, "65536 bytes", got, e, []uint32{5})
	got, e = nat.Parse(noughts + "05")
	proof.Refused(t, "65537 bytes", got, e, api.ErrLimit)
	got, e = nat.Parse(strings.Repeat("x", 65537))
	proof.Refused(t, "65537 bytes that are no digits: the first error that is named", got, e, api.ErrLimit)
	got, e = nat.Parse(noughts + "x")
	proof.Refused(t, "65536 bytes, the last one no digit", got, e, api.ErrSyntax)
	nines := strings.Repeat("9", 65536)
	got, e = nat.Parse(nines)
	if e != api.OK || nat.Text(got) != nines {
		t.Errorf("65536 nines: error %d, %d bits", e, nat.Bits(got))
	}
}

func TestParseOfText(t *testing.T) { // P1.6
	d := dice(12)
	for range 1000 {
		a := d.number(25)
		text := nat.Text(a)
		got, e := nat.Parse(text)
		proof.Taken(t, "Parse("+text+")", got, e, nat.Norm(a))
		got, e = nat.Parse(strings.Repeat("0", d.next(20)) + text)
		proof.Taken(t, "noughts and "+text, got, e, nat.Norm(a))
	}
}
