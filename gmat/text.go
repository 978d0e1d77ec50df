package gmat

import (
	"strings"

	"tessel/api"
	"tessel/gint"
)

// Text tells it.
func Text(m api.M) (string, api.Errno) {
	if !Good(m) || len(m) > 0 && width(m) == 0 {
		return "", api.ErrShape
	}
	rows := build(len(m), func(i int) string {
		return strings.Join(build(width(m), func(j int) string { return gint.Text(m[i][j]) }), " ")
	})
	return strings.Join(rows, "; "), api.OK
}

// Parse reads it.
func Parse(s string) (api.M, api.Errno) {
	if len(s) > api.MaxText {
		return nil, api.ErrLimit
	}
	if strings.Trim(s, " ") == "" {
		return nil, api.OK
	}
	var m api.M
	for _, text := range strings.Split(s, ";") {
		row, e := parseRow(text)
		if e != api.OK {
			return nil, e
		}
		m = append(m, row)
	}
	// The rows are held against each other at the end alone: the syntax of all of them comes first.
	if !Good(m) {
		return nil, api.ErrShape
	}
	return m, api.OK
}

// parseRow reads the numbers of a row.
func parseRow(text string) ([]api.G, api.Errno) {
	var row []api.G
	for _, word := range strings.Split(text, " ") {
		if word == "" {
			// Of blanks side by side each parts a word without signs off, which is none.
			continue
		}
		number, e := gint.Parse(word)
		if e != api.OK {
			return nil, api.ErrSyntax
		}
		row = append(row, number)
	}
	if len(row) == 0 {
		return nil, api.ErrSyntax
	}
	return row, api.OK
}
