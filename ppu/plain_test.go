package ppu_test

import (
	"math"
	"testing"

	"picklock/ppu"
)

const plainBytes = 8192

// O1: a plain cart's byte is C's at the address's lowest thirteen bits, whichever the address is.
func TestPlainRead(t *testing.T) {
	c := &ppu.Plain{M: 3, Clocks: 7}
	copy(c.C[:], chance(1, plainBytes))
	before := *c
	for a := range 65536 {
		if got := c.ReadCHR(uint16(a)); got != c.C[a%plainBytes] {
			t.Fatalf("%X: %X, want %X", a, got, c.C[a%plainBytes])
		}
	}
	if *c != before {
		t.Error("a read changes something")
	}
}

// O1: what is written lies at the address's lowest thirteen bits, and nothing else is changed.
func TestPlainWrite(t *testing.T) {
	for a := 0; a < 65536; a += 97 {
		c := &ppu.Plain{M: 2, Clocks: 9}
		copy(c.C[:], chance(2, plainBytes))
		want := *c
		v := byte(a) ^ c.C[a%plainBytes] | 1
		want.C[a%plainBytes] = v
		c.WriteCHR(uint16(a), v)
		if *c != want {
			t.Errorf("%X: something else than %X is changed", a, a%plainBytes)
		}
	}
	for _, a := range []uint16{0, 1, 0x1FFF, 0x2000, 0x2001, 0x3FFF, 0x4000, 0x7FFF, 0x8000, 0xE000, 0xFFFF} {
		c := &ppu.Plain{}
		c.WriteCHR(a, 0xA5)
		isSame(t, "C", c.C[a%plainBytes], 0xA5)
		isSame(t, "what is read", c.ReadCHR(a), 0xA5)
		isSame(t, "what is read below 2000", c.ReadCHR(a%plainBytes), 0xA5)
	}
}

// O1: Mirror is M, whatever it is.
func TestPlainMirror(t *testing.T) {
	for _, m := range []int{0, 1, 2, 3, 4, -1, 255, math.MinInt, math.MaxInt} {
		c := &ppu.Plain{M: m}
		isSame(t, "Mirror", c.Mirror(), m)
		if *c != (ppu.Plain{M: m}) {
			t.Error("Mirror changes something")
		}
	}
}

// O1: Clock counts up, and nothing else changes.
func TestPlainClock(t *testing.T) {
	c := &ppu.Plain{M: 1}
	copy(c.C[:], chance(3, plainBytes))
	want := *c
	for n := range 1000 {
		isSame(t, "Clocks", c.Clocks, n)
		c.Clock()
	}
	want.Clocks = 1000
	if *c != want {
		t.Error("Clock changes something else")
	}
}

// O1: a plain cart is a Cart, whose bytes are the chip's below 2000.
func TestPlainCart(t *testing.T) {
	c := &ppu.Plain{}
	var cart ppu.Cart = c
	p := ppu.New(cart)
	put(p, 0x1FFE, 1, 2, 3)
	isSame(t, "C[1FFE]", c.C[0x1FFE], 1)
	isSame(t, "C[1FFF]", c.C[0x1FFF], 2)
	isSame(t, "C[0]", c.C[0], 0)
	isSame(t, "VRAM(0)", p.VRAM(0), 3)
	c.C[5] = 9
	isSame(t, "the byte at 5", there(p, 5), 9)
}
