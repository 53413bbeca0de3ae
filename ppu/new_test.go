package ppu_test

import (
	"math"
	"testing"

	"picklock/ppu"
)

// O2: all is 0 at first, and New asks the cart nothing.
func TestNew(t *testing.T) {
	for reg := range 8 {
		p, c := made(0)
		isLook(t, "at first", p, look{})
		isSame(t, "calls of the cart", len(c.calls), 0)
		isSame(t, "what is read first", p.Read(reg), 0)
		isSame(t, "NMI", p.NMI(), false)
	}
}

// O2: OAM, VRAM and Palette tell 0 of a number that there is none of.
func TestNoByte(t *testing.T) {
	p, _ := made(1)
	p.Fill([oamBytes]byte(chance(1, oamBytes)))
	p.Write(3, 0xFF)
	p.Write(4, 0x55)
	p.Write(4, 0x66)
	put(p, 0x2000, chance(2, vramBytes)...)
	put(p, 0x2000, 0x77)
	put(p, 0x27FF, 0x78)
	put(p, paletteStart, chance(3, paletteBytes)...)
	put(p, 0x3F00, 0x11)
	put(p, 0x3F1F, 0x12)
	for _, x := range []struct {
		what        string
		of          func(i int) byte
		n           int
		first, last byte
	}{{"OAM", p.OAM, oamBytes, 0x66, 0x55}, {"VRAM", p.VRAM, vramBytes, 0x77, 0x78}, {"Palette", p.Palette, paletteBytes, 0x11, 0x12}} {
		isSame(t, x.what+", the first one", x.of(0), x.first)
		isSame(t, x.what+", the last one", x.of(x.n-1), x.last)
		for _, i := range []int{-1, -2, -x.n, -256, math.MinInt, x.n, x.n + 1, 2 * x.n, 1 << 32, math.MaxInt} {
			isSame(t, x.what+" of none", x.of(i), 0)
		}
	}
}

// O2: OAM, VRAM and Palette change nothing.
func TestToldAgain(t *testing.T) {
	p, c := made(0)
	scramble(p, 5)
	calls := len(c.calls)
	isLook(t, "told again", p, lookOf(p))
	isSame(t, "calls of the cart", len(c.calls), calls)
}

// scramble does many things to a chip, which hang on the seed alone.
func scramble(p *ppu.PPU, seed int) {
	b := chance(seed, 4000)
	for i := 0; i < len(b); i += 4 {
		scrambleOnce(p, b[i:])
	}
}

// scrambleOnce does what four bytes tell.
func scrambleOnce(p *ppu.PPU, b []byte) {
	switch {
	case b[0] < 40:
		p.Run(int(b[1]) * int(b[2]))
	case b[0] < 60:
		p.Read(int(b[1]))
	case b[0] < 100:
		to(p, uint16(b[1])<<8|uint16(b[2]))
		p.Write(7, b[3])
	default:
		p.Write(int(b[1]), b[2])
	}
}
