package gsmith_test

import (
	"testing"

	"tessel/api"
	"tessel/gsmith"
	"tessel/proof"
)

func calls() []proof.Call {
	return []proof.Call{
		proof.One("Factors", func(m api.M) []any { return proof.All(gsmith.Factors(m)) }),
		proof.One("Smith", func(m api.M) []any { return proof.All(gsmith.Smith(m)) }),
		proof.One("Exponent", func(m api.M) []any { return proof.All(gsmith.Exponent(m)) }),
	}
}

func TestMemory(t *testing.T) { // R2, R4, and numbers by their values
	proof.Check(t, calls(), proof.Lists(proof.Modules(), 1))
}

func TestLong(t *testing.T) { // R1: on long numbers, and on very many noughts, each call ends
	proof.CheckLong(t, calls(), proof.Lists(proof.Longs(), 1))
}
