package alu_test

import (
	"testing"

	"picklock/alu"
)

// everyShift calls do with each v, with carry and without.
func everyShift(do func(v byte, carry bool)) {
	for v := range 256 {
		do(byte(v), false)
		do(byte(v), true)
	}
}

// M2: of each v, with carry and without, Left tells r and c by the chapter's words.
func TestLeft(t *testing.T) {
	everyShift(func(v byte, carry bool) {
		r, c := alu.Left(v, carry)
		if want := int(v)*2%256 + one(carry); int(r) != want || c != (v >= 128) {
			t.Errorf("Left of %d, carry %t: %d %t", v, carry, r, c)
		}
	})
}

// M2: of each v, with carry and without, Right tells r and c by the chapter's words.
func TestRight(t *testing.T) {
	everyShift(func(v byte, carry bool) {
		r, c := alu.Right(v, carry)
		if want := int(v)/2 + 128*one(carry); int(r) != want || c != (v%2 == 1) {
			t.Errorf("Right of %d, carry %t: %d %t", v, carry, r, c)
		}
	})
}

// M2: Left and Right at the edges.
func TestShiftEdges(t *testing.T) {
	for _, x := range []struct {
		v      byte
		carry  bool
		left   byte
		leftC  bool
		right  byte
		rightC bool
	}{
		{0, false, 0, false, 0, false},
		{0, true, 1, false, 128, false},
		{1, false, 2, false, 0, true},
		{1, true, 3, false, 128, true},
		{127, false, 254, false, 63, true},
		{128, false, 0, true, 64, false},
		{128, true, 1, true, 192, false},
		{254, true, 253, true, 255, false},
		{255, false, 254, true, 127, true},
		{255, true, 255, true, 255, true},
	} {
		if r, c := alu.Left(x.v, x.carry); r != x.left || c != x.leftC {
			t.Errorf("Left of %d, carry %t: %d %t", x.v, x.carry, r, c)
		}
		if r, c := alu.Right(x.v, x.carry); r != x.right || c != x.rightC {
			t.Errorf("Right of %d, carry %t: %d %t", x.v, x.carry, r, c)
		}
	}
}

// What follows: Right of what Left told, with the c that it told, tells v again, and the carry that was handed in; and the other way round.
func TestShiftedBack(t *testing.T) {
	everyShift(func(v byte, carry bool) {
		if back, c := alu.Right(alu.Left(v, carry)); back != v || c != carry {
			t.Errorf("%d, carry %t, shifted left: back to %d %t", v, carry, back, c)
		}
		if back, c := alu.Left(alu.Right(v, carry)); back != v || c != carry {
			t.Errorf("%d, carry %t, shifted right: back to %d %t", v, carry, back, c)
		}
	})
}

// M2: of each a and v Bit tells z, and bits 7 and 6 of v.
func TestBit(t *testing.T) {
	everyPair(func(a, v byte) {
		z, n, o := alu.Bit(a, v)
		common := false
		for b := range 8 {
			common = common || a>>b%2 == 1 && v>>b%2 == 1
		}
		if z == common || n != (v >= 128) || o != (v%128 >= 64) {
			t.Errorf("Bit of %d and %d: %t %t %t", a, v, z, n, o)
		}
	})
}

// M2: n and o are v's bits 7 and 6, whatever a is; z is told of every bit.
func TestBitEdges(t *testing.T) {
	for _, x := range []struct {
		a, v    byte
		z, n, o bool
	}{
		{0, 0, true, false, false},
		{0, 255, true, true, true},
		{255, 0, true, false, false},
		{255, 255, false, true, true},
		{0x0F, 0xF0, true, true, true},
		{0xC0, 0x3F, true, false, false},
		{1, 0x41, false, false, true},
		{1, 0x81, false, true, false},
		{0x80, 0x80, false, true, false},
		{0x40, 0x40, false, false, true},
	} {
		if z, n, o := alu.Bit(x.a, x.v); z != x.z || n != x.n || o != x.o {
			t.Errorf("Bit of %d and %d: %t %t %t", x.a, x.v, z, n, o)
		}
	}
}
