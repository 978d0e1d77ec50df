package nat

import (
	"strconv"

	"tessel/api"
)

// Texts are read and told by groups of digits of base ten, as many as one digit of a number holds.
const (
	groupSize = 9
	groupBase = 1_000_000_000
)

// Text tells it in base ten.
func Text(a []uint32) string {
	var groups []uint64
	for rest := Norm(a); len(rest) > 0; rest = trim(rest) {
		groups = append(groups, takeGroup(rest))
	}
	if len(groups) == 0 {
		return "0"
	}
	top := len(groups) - 1
	text := strconv.AppendUint(make([]byte, 0, len(groups)*groupSize), groups[top], 10)
	for i := top - 1; i >= 0; i-- {
		// The 1 ahead keeps the group's noughts; it is cut off.
		text = append(text, strconv.FormatUint(groupBase+groups[i], 10)[1:]...)
	}
	return string(text)
}

// takeGroup divides a by groupBase, in place, and tells the rest.
func takeGroup(a []uint32) uint64 {
	rest := uint64(0)
	for i := len(a) - 1; i >= 0; i-- {
		rest = rest<<digitBits | uint64(a[i])
		a[i] = uint32(rest / groupBase)
		rest %= groupBase
	}
	return rest
}

// Parse reads it.
func Parse(s string) ([]uint32, api.Errno) {
	if len(s) > api.MaxText {
		return nil, api.ErrLimit
	}
	if !isDigits(s) {
		return nil, api.ErrSyntax
	}
	var number []uint32
	// The first group may be short: all behind it are whole.
	for end := (len(s)-1)%groupSize + 1; end <= len(s); end += groupSize {
		number = putGroup(number, groupValue(s[max(0, end-groupSize):end]))
	}
	return number, api.OK
}

func isDigits(s string) bool {
	for i := range len(s) {
		if s[i] < '0' || s[i] > '9' {
			return false
		}
	}
	return len(s) > 0
}

func groupValue(s string) uint64 {
	value := uint64(0)
	for i := range len(s) {
		value = value*10 + uint64(s[i]-'0')
	}
	return value
}

// putGroup multiplies a by groupBase, adds the group, and tells it: a grows where it must.
func putGroup(a []uint32, group uint64) []uint32 {
	carry := group
	for i, x := range a {
		carry += uint64(x) * groupBase
		a[i] = uint32(carry)
		carry >>= digitBits
	}
	if carry != 0 {
		a = append(a, uint32(carry))
	}
	return a
}
