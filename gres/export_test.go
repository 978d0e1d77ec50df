package gres

import (
	"iter"

	"tessel/api"
)

// Residues lets the tests range over what All and Units range over.
func Residues(m api.G) iter.Seq[api.G] { return residues(m) }
