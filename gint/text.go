package gint

import (
	"strings"

	"tessel/api"
	"tessel/zint"
)

// Text tells it.
func Text(a api.G) string {
	if zint.Sign(a.Im) == 0 {
		return zint.Text(a.Re)
	}
	re, sign, amount := "", "", ""
	if zint.Sign(a.Re) != 0 {
		re, sign = zint.Text(a.Re), "+"
	}
	if zint.Sign(a.Im) < 0 {
		sign = "-"
	}
	if zint.Bits(a.Im) > 1 {
		amount = zint.Text(zint.Abs(a.Im))
	}
	return re + sign + amount + "i"
}

// Parse reads it.
func Parse(s string) (api.G, api.Errno) {
	if len(s) > api.MaxText {
		return api.G{}, api.ErrLimit
	}
	var number api.G
	e := api.OK
	sign, digits, rest := cutPart(s)
	if sign == "+" {
		goto refused
	}
	if rest == "i" {
		goto imaginary
	}

	number.Re, e = zint.Parse(sign + digits)
	if e != api.OK {
		goto refused
	}
	if rest == "" {
		goto done
	}
	sign, digits, rest = cutPart(rest)
	// Without a sign rest is what it was ahead: not i.
	if rest != "i" {
		goto refused
	}

imaginary:
	if digits == "" {
		digits = "1"
	}
	// These are digits alone: no error can come of them.
	number.Im, _ = zint.Parse(digits)
	if sign == "-" {
		number.Im = zint.Neg(number.Im)
	}
done:
	return number, api.OK
refused:
	return api.G{}, api.ErrSyntax
}

// cutPart cuts the sign and the digits off that a text begins with; either may be missing.
func cutPart(s string) (sign, digits, rest string) {
	if strings.HasPrefix(s, "+") || strings.HasPrefix(s, "-") {
		sign, s = s[:1], s[1:]
	}
	rest = strings.TrimLeft(s, "0123456789")
	return sign, s[:len(s)-len(rest)], rest
}
