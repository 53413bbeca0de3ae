package ppu_test

import (
	"math"
	"testing"

	"picklock/ines"
)

// halves are, of each mirroring, which half of VRAM each of the four tables lies in.
var halves = map[int][4]int{
	ines.Horizontal: {0, 0, 1, 1},
	ines.Vertical:   {0, 1, 0, 1},
	ines.Lower:      {0, 0, 0, 0},
	ines.Upper:      {1, 1, 1, 1},
}

// O2: where VRAM's byte lies, for each mirroring and each address from 2000 to 3EFF, written and read.
func TestVRAM(t *testing.T) {
	for mirror, half := range halves {
		p, c := made(mirror)
		for a := ownStart; a < paletteStart; a++ {
			i := half[(a-ownStart)/1024%4]*1024 + a%1024
			v := byte(a) ^ byte(a>>5) ^ 0xA5
			before := lookOf(p)
			to(p, uint16(a))
			p.Write(7, v)
			before.vram[i] = v
			before.at, before.next = uint16(a)+1, uint16(a)
			if lookOf(p) != before {
				t.Fatalf("mirroring %d, written at %X", mirror, a)
			}
			if got := there(p, uint16(a)); got != v {
				t.Fatalf("mirroring %d, at %X: %X, want %X", mirror, a, got, v)
			}
		}
		isSame(t, "calls of the cart", len(c.calls), 0)
	}
}

// O2: a byte of VRAM is seen at each table that lies in its half, and at no other one.
func TestVRAMSeen(t *testing.T) {
	for mirror, half := range halves {
		p, _ := made(mirror)
		for table := range 4 {
			put(p, uint16(0x2000+0x400*table+0x123), byte(table+1))
			for other := range 4 {
				v := there(p, uint16(0x2000+0x400*other+0x123))
				if (v == byte(table+1)) != (half[other] == half[table]) {
					t.Errorf("mirroring %d: what is written in table %d is %X in table %d", mirror, table, v, other)
				}
			}
		}
	}
}

// O2: all of a byte's bits are kept in VRAM.
func TestVRAMBits(t *testing.T) {
	p, _ := made(0)
	for v := range 256 {
		put(p, 0x2000+uint16(v)*3, byte(v))
		isSame(t, "VRAM", p.VRAM(v*3), byte(v))
		isSame(t, "what is read", there(p, 0x2000+uint16(v)*3), byte(v))
	}
}

// O2: the cart's mirroring counts as it is when a byte is read or written.
func TestMirrorLater(t *testing.T) {
	p, c := made(ines.Lower)
	put(p, 0x2400, 1)
	c.mirror = ines.Upper
	put(p, 0x2400, 2)
	isSame(t, "VRAM(0)", p.VRAM(0), 1)
	isSame(t, "VRAM(400)", p.VRAM(0x400), 2)
	isSame(t, "by Upper", there(p, 0x2000), 2)
	c.mirror = ines.Vertical
	isSame(t, "by Vertical", there(p, 0x2800), 1)
	isSame(t, "by Vertical", there(p, 0x2C00), 2)
	c.mirror = ines.Horizontal
	isSame(t, "by Horizontal", there(p, 0x2400), 1)
	isSame(t, "by Horizontal", there(p, 0x2800), 2)
	to(p, 0x2000)
	c.mirror = ines.Upper
	p.Read(7)
	c.mirror = ines.Lower
	isSame(t, "BUFFER", p.Read(7), 2)
}

// R2: a mirroring that is none of the four panics nowhere, and what is written is read again.
func TestMirrorUnknown(t *testing.T) {
	for _, mirror := range []int{-1, 4, 5, 255, math.MinInt, math.MaxInt} {
		p, _ := made(mirror)
		for a := ownStart; a < memoryEnd; a += 0x3F {
			put(p, uint16(a), 0x15)
			isSame(t, "what was written", there(p, uint16(a)), 0x15)
		}
	}
}

// paletteAt tells the place in PALETTE of an address.
func paletteAt(a int) int {
	return map[int]int{0x10: 0, 0x14: 4, 0x18: 8, 0x1C: 12}[a%32] + map[bool]int{true: 0, false: a % 32}[a%32 >= 16 && a%4 == 0]
}

// O2: PALETTE's byte for each address from 3F00 on, written and read: its bytes are seen again every 20, and of 10, 14, 18 and 1C those of 0, 4, 8 and C.
func TestPalette(t *testing.T) {
	for a := paletteStart; a < memoryEnd; a++ {
		for _, v := range []byte{0x3F, 0x15} {
			p, c := made(0)
			put(p, uint16(a), v)
			want := look{at: uint16(a) + 1, next: uint16(a)}
			want.palette[paletteAt(a)] = v
			isLook(t, "written", p, want)
			for b := paletteStart; b < memoryEnd; b++ {
				told := byte(0)
				if paletteAt(b) == paletteAt(a) {
					told = v
				}
				if got := there(p, uint16(b)); got != told {
					t.Fatalf("%X written at %X: %X at %X, want %X", v, a, got, b, told)
				}
			}
			isSame(t, "calls of the cart", len(c.calls), 0)
		}
	}
}

// O2: by number, 10, 14, 18 and 1C of PALETTE are never written.
func TestPaletteHidden(t *testing.T) {
	p, _ := made(0)
	for a := paletteStart; a < memoryEnd; a++ {
		put(p, uint16(a), 0x2A)
	}
	for i := range paletteBytes {
		want := byte(0x2A)
		if i >= 16 && i%4 == 0 {
			want = 0
		}
		isSame(t, "Palette", p.Palette(i), want)
	}
}

// O2: PALETTE's bytes have their lowest six bits alone, as they are told and as they are read.
func TestPaletteBits(t *testing.T) {
	p, _ := made(0)
	for v := range 256 {
		for _, a := range []int{0x3F00, 0x3F07, 0x3F10, 0x3F1F, 0x3FE5} {
			put(p, uint16(a), byte(v))
			isSame(t, "Palette", p.Palette(paletteAt(a)), byte(v)%64)
			isSame(t, "what is read", there(p, uint16(a)), byte(v)%64)
		}
	}
}

// O2: below 2000 all bytes are the cart's, with all their bits.
func TestCartBytes(t *testing.T) {
	p, c := made(0)
	for a := range ownStart {
		put(p, uint16(a), byte(a>>8)^byte(a))
		if got := c.m[a]; got != byte(a>>8)^byte(a) {
			t.Fatalf("%X: %X", a, got)
		}
	}
	isLook(t, "written", p, look{at: 0x2000, next: 0x1FFF})
	for a := range ownStart {
		if got := there(p, uint16(a)); got != byte(a>>8)^byte(a) {
			t.Fatalf("%X: %X is read", a, got)
		}
	}
}
