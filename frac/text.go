package frac

import (
	"strings"

	"tessel/api"
	"tessel/zint"
)

// Text tells it.
func Text(a api.Q) (string, api.Errno) {
	low, e := Make(a.Num, a.Den)
	if e != api.OK {
		return "", e
	}
	text := zint.Text(low.Num)
	if zint.Cmp(low.Den, zint.From(1)) != 0 {
		text += "/" + zint.Text(low.Den)
	}
	return text, api.OK
}

// Parse reads it.
func Parse(s string) (api.Q, api.Errno) {
	if len(s) > api.MaxText {
		// Each part alone may be within the limit.
		return api.Q{}, api.ErrLimit
	}
	top, bottom, split := strings.Cut(s, "/")
	if !split {
		bottom = "1"
	}
	num, e := zint.Parse(top)
	if e != api.OK {
		return api.Q{}, e
	}
	den, e := parseDen(bottom)
	if e != api.OK {
		return api.Q{}, e
	}
	return Make(num, den)
}

// parseDen reads what is behind the /: digits alone.
func parseDen(s string) (api.Z, api.Errno) {
	if strings.HasPrefix(s, "-") {
		return api.Z{}, api.ErrSyntax
	}
	return zint.Parse(s)
}
