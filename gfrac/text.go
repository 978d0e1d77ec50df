package gfrac

import (
	"strings"

	"tessel/api"
	"tessel/frac"
)

// Text tells it.
func Text(a api.C) (string, api.Errno) {
	re, im, e := both(func(of part) (string, api.Errno) { return frac.Text(of(a)) })
	if e != api.OK || im == "0" {
		return re, e
	}
	ahead, sign := "", ""
	if re != "0" {
		ahead, sign = re, "+"
	}
	amount, isBelow := strings.CutPrefix(im, "-")
	if isBelow {
		sign = "-"
	}
	if amount == "1" {
		amount = ""
	}
	return ahead + sign + amount + "i", api.OK
}

// Parse reads it.
func Parse(s string) (api.C, api.Errno) {
	if len(s) > api.MaxText {
		return api.C{}, api.ErrLimit
	}
	reText, imText := split(s)
	re, reError := frac.Parse(reText)
	im, imError := frac.Parse(imText)
	// The form of the whole text is asked for first: then alone a division by 0 in either part counts.
	for _, refusal := range []api.Errno{api.ErrSyntax, api.ErrZero} {
		if reError == refusal || imError == refusal {
			return api.C{}, refusal
		}
	}
	return api.C{Re: re, Im: im}, api.OK
}

// split tells the texts of both parts as frac reads them: of a text of no form one of them has none either.
func split(s string) (re, im string) {
	ahead, isImaginary := strings.CutSuffix(s, "i")
	if !isImaginary {
		return s, "0"
	}
	// The last sign is the imaginary part's, for no / has one behind it.
	at := max(strings.LastIndexAny(ahead, "+-"), 0)
	re, im = ahead[:at], ahead[at:]
	if re == "" {
		re = "0"
	} else {
		im = strings.TrimPrefix(im, "+")
	}
	if im == "" || im == "-" {
		im += "1"
	}
	return re, im
}
