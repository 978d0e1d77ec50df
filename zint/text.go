package zint

import (
	"strings"

	"tessel/api"
	"tessel/nat"
)

// Text tells it.
func Text(a api.Z) string {
	text := nat.Text(a.Mag)
	if Sign(a) < 0 {
		return "-" + text
	}
	return text
}

// Parse reads it.
func Parse(s string) (api.Z, api.Errno) {
	if len(s) > api.MaxText {
		// The - counts too, which the amount's own limit leaves out.
		return api.Z{}, api.ErrLimit
	}
	digits, neg := strings.CutPrefix(s, "-")
	amount, e := nat.Parse(digits)
	if e != api.OK {
		return api.Z{}, e
	}
	return signed(neg, amount), api.OK
}
