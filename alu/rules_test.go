package alu_test

import (
	"testing"

	"picklock/alu"
)

// all gathers what every call tells of each a and v, with carry and without.
func all() map[string][]result {
	out := map[string][]result{}
	tell := func(what string, r result) { out[what] = append(out[what], r) }
	every(func(a, v byte, carry bool) {
		tell("Add", got(alu.Add(a, v, carry)))
		tell("Sub", got(alu.Sub(a, v, carry)))
		c, z, n := alu.Compare(a, v)
		tell("Compare", result{byte(one(c)), z, n})
		r, c := alu.Left(v, carry)
		tell("Left", result{r, c, false})
		r, c = alu.Right(v, carry)
		tell("Right", result{r, c, false})
		z, n, o := alu.Bit(a, v)
		tell("Bit", result{byte(one(z)), n, o})
	})
	return out
}

// R4: of the same the same is told, whatever was called between.
func TestAgain(t *testing.T) {
	first, second := all(), all()
	for what, answers := range first {
		if len(answers) != 2*256*256 {
			t.Errorf("%s: %d answers", what, len(answers))
		}
		for i, r := range answers {
			if second[what][i] != r {
				t.Errorf("%s, call %d: another answer", what, i)
			}
		}
	}
}
