package alu_test

import (
	"testing"

	"picklock/alu"
)

// sum is a call of Add or of Sub, and what it tells.
type sum struct {
	a, v  byte
	carry bool
	want  result
}

// M1: of each a and v, with carry and without, Add tells r, c and o by the chapter's words.
func TestAdd(t *testing.T) {
	every(func(a, v byte, carry bool) {
		whole := int(a) + int(v) + one(carry)
		want := result{round(whole), whole > 255, !isSigned(signed(a) + signed(v) + one(carry))}
		isResult(t, "Add", a, v, carry, got(alu.Add(a, v, carry)), want)
	})
}

// M1: Add at the edges, and the chapter's example.
func TestAddEdges(t *testing.T) {
	for _, x := range []sum{
		{0, 0, false, result{0, false, false}},
		{0, 0, true, result{1, false, false}},
		{80, 80, false, result{160, false, true}}, // the example
		{255, 0, false, result{255, false, false}},
		{255, 0, true, result{0, true, false}},
		{0, 255, true, result{0, true, false}},
		{255, 1, false, result{0, true, false}},
		{255, 255, false, result{254, true, false}},
		{255, 255, true, result{255, true, false}},
		{127, 0, false, result{127, false, false}},
		{127, 0, true, result{128, false, true}},
		{127, 1, false, result{128, false, true}},
		{127, 127, true, result{255, false, true}},
		{127, 128, true, result{0, true, false}},
		{128, 128, false, result{0, true, true}},
		{128, 255, false, result{127, true, true}},
		{128, 255, true, result{128, true, false}},
	} {
		isResult(t, "Add", x.a, x.v, x.carry, got(alu.Add(x.a, x.v, x.carry)), x.want)
	}
}

// M1: of each a and v, with carry and without, Sub tells r, c and o by the chapter's words.
func TestSub(t *testing.T) {
	every(func(a, v byte, carry bool) {
		whole := int(a) - int(v) - one(!carry)
		want := result{round(whole), whole >= 0, !isSigned(signed(a) - signed(v) - one(!carry))}
		isResult(t, "Sub", a, v, carry, got(alu.Sub(a, v, carry)), want)
	})
}

// M1: Sub at the edges.
func TestSubEdges(t *testing.T) {
	for _, x := range []sum{
		{5, 5, true, result{0, true, false}},
		{5, 5, false, result{255, false, false}},
		{0, 0, true, result{0, true, false}},
		{0, 0, false, result{255, false, false}},
		{255, 255, true, result{0, true, false}},
		{255, 255, false, result{255, false, false}},
		{255, 0, true, result{255, true, false}},
		{255, 0, false, result{254, true, false}},
		{0, 255, true, result{1, false, false}},
		{0, 255, false, result{0, false, false}},
		{128, 0, true, result{128, true, false}},
		{128, 0, false, result{127, true, true}},
		{128, 1, true, result{127, true, true}},
		{127, 255, true, result{128, false, true}},
		{127, 255, false, result{127, false, false}},
		{0, 128, true, result{128, false, true}},
		{0, 128, false, result{127, false, false}},
	} {
		isResult(t, "Sub", x.a, x.v, x.carry, got(alu.Sub(x.a, x.v, x.carry)), x.want)
	}
}

// M1: c and o are told apart: each of their four pairs comes up, of sums and of differences.
func TestPairs(t *testing.T) {
	type pair struct{ c, o bool }
	sums, differences := map[pair]int{}, map[pair]int{}
	every(func(a, v byte, carry bool) {
		_, c, o := alu.Add(a, v, carry)
		sums[pair{c, o}]++
		_, c, o = alu.Sub(a, v, carry)
		differences[pair{c, o}]++
	})
	if len(sums) != 4 || len(differences) != 4 {
		t.Errorf("pairs: %v of sums, %v of differences", sums, differences)
	}
}

// M1: of each a and v Compare tells c, z and n by the chapter's words.
func TestCompare(t *testing.T) {
	everyPair(func(a, v byte) {
		c, z, n := alu.Compare(a, v)
		if c != (a >= v) || z != (a == v) || n != (round(int(a)-int(v)) >= 128) {
			t.Errorf("Compare of %d and %d: %t %t %t", a, v, c, z, n)
		}
	})
}

// M1: Compare of a above v, below it, and the same; by more than 128, by less, and by 128.
func TestCompareEdges(t *testing.T) {
	for _, x := range []struct {
		a, v    byte
		c, z, n bool
	}{
		{5, 5, true, true, false},
		{0, 0, true, true, false},
		{255, 255, true, true, false},
		{6, 5, true, false, false},
		{132, 5, true, false, false},
		{133, 5, true, false, true},
		{200, 5, true, false, true},
		{255, 0, true, false, true},
		{5, 6, false, false, true},
		{5, 133, false, false, true},
		{5, 134, false, false, false},
		{5, 200, false, false, false},
		{0, 255, false, false, false},
	} {
		if c, z, n := alu.Compare(x.a, x.v); c != x.c || z != x.z || n != x.n {
			t.Errorf("Compare of %d and %d: %t %t %t", x.a, x.v, c, z, n)
		}
	}
}

// What follows: Sub is Add of v with all bits turned, in all three answers.
func TestTurned(t *testing.T) {
	every(func(a, v byte, carry bool) {
		isResult(t, "Sub", a, v, carry, got(alu.Sub(a, v, carry)), got(alu.Add(a, 255-v, carry)))
	})
}

// M1: what Add adds, Sub takes away again; 1 is added with a carry, and taken away without one.
func TestBack(t *testing.T) {
	every(func(a, v byte, carry bool) {
		r, _, _ := alu.Add(a, v, carry)
		if back, _, _ := alu.Sub(r, v, !carry); back != a {
			t.Errorf("%d and %d, carry %t: back to %d", a, v, carry, back)
		}
	})
}
