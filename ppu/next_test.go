package ppu_test

import (
	"testing"

	"picklock/ppu"
)

// fromNext makes a chip whose NEXT is n, and whose AT is none of what the tests look for.
func fromNext(t *testing.T, n uint16) *ppu.PPU {
	t.Helper()
	p, _ := made(0)
	p.Write(6, byte(n>>8)&0x3F)
	p.Write(6, byte(n))
	if n&0x4000 != 0 {
		p.Write(5, byte(n&31)<<3)
		p.Write(5, byte(n>>12)|byte(n>>5)<<3)
	}
	if p.Next() != n {
		t.Fatalf("NEXT is %X, want %X", p.Next(), n)
	}
	return p
}

// nexts are some values of NEXT: none, all, each bit alone, each bit missing.
func nexts() []uint16 {
	out := []uint16{0, 0x7FFF, 0x5555, 0x2AAA}
	for n := range 15 {
		out = append(out, 1<<n, 0x7FFF^1<<n)
	}
	return out
}

// changes fails if a byte that is written doesn't change just those bits of NEXT, to what is told of it; second is ahead of it, if SECOND shall be set.
func changes(t *testing.T, reg int, second bool, bits uint16, told func(v uint16) uint16) {
	t.Helper()
	for _, n := range nexts() {
		for v := range 256 {
			p := fromNext(t, n)
			before := n
			if second {
				p.Write(6, byte(n>>8))
				before = n &^ 0x4000
			}
			at := p.At()
			p.Write(reg, byte(v))
			want := before&^bits | told(uint16(v))
			isSame(t, "NEXT", p.Next(), want)
			if reg == 6 && second {
				at = want
			}
			isSame(t, "AT", p.At(), at)
			if t.Failed() {
				t.Fatalf("NEXT %X, %X to %d", n, v, reg)
			}
		}
	}
}

// O2: what is written to 0 tells NEXT's bits 10 and 11 by its lowest two; SECOND and AT stay.
func TestNextByCTRL(t *testing.T) {
	changes(t, 0, false, 0x0C00, func(v uint16) uint16 { return v & 3 << 10 })
	changes(t, 0, true, 0x0C00, func(v uint16) uint16 { return v & 3 << 10 })
	p, _ := made(0)
	p.Write(6, 0x21)
	p.Write(0, 2)
	p.Write(6, 0x43)
	isSame(t, "AT", p.At(), 0x2943)
}

// O2: the first byte that is written to 5 tells NEXT's lowest five bits by its highest five.
func TestNextByScrollFirst(t *testing.T) {
	changes(t, 5, false, 0x001F, func(v uint16) uint16 { return v >> 3 })
}

// O2: the second one tells NEXT's bits 12 to 14 by its lowest three, and its bits 5 to 9 by its highest five.
func TestNextByScrollSecond(t *testing.T) {
	changes(t, 5, true, 0x73E0, func(v uint16) uint16 { return v&7<<12 | v>>3<<5 })
}

// O2: the first byte that is written to 6 tells NEXT's bits 8 to 13 by its lowest six, and bit 14 is 0; AT stays.
func TestNextByAddressFirst(t *testing.T) {
	changes(t, 6, false, 0x7F00, func(v uint16) uint16 { return v & 0x3F << 8 })
}

// O2: the second one tells NEXT's lowest eight bits, and AT is NEXT.
func TestNextByAddressSecond(t *testing.T) {
	changes(t, 6, true, 0x00FF, func(v uint16) uint16 { return v })
}

// O2: nothing else changes NEXT.
func TestNextStays(t *testing.T) {
	for _, n := range nexts() {
		p := fromNext(t, n)
		for _, reg := range []int{1, 2, 3, 4, 7} {
			p.Write(reg, 0xFF)
			p.Write(reg, 0x5A)
		}
		for reg := range 8 {
			p.Read(reg)
		}
		p.Fill([oamBytes]byte{1, 2, 3})
		p.Run(2*pictureDots + 777)
		p.NMI()
		isSame(t, "NEXT", p.Next(), n)
	}
}

// O2: SECOND is one for 5 and 6, and each turns it: two bytes in any way are a first and a second one.
func TestSecond(t *testing.T) {
	for turns := range 64 {
		p, _ := made(0)
		var want uint16
		for i := range 6 {
			reg, v := 5+turns>>i&1, byte(0x91*(i+3)+turns)
			w := uint16(v)
			switch {
			case reg == 5 && i%2 == 0:
				want = want&^0x1F | w>>3
			case reg == 5:
				want = want&^0x73E0 | w&7<<12 | w>>3<<5
			case i%2 == 0:
				want = want&^0x7F00 | w&0x3F<<8
			default:
				want = want&^0xFF | w
			}
			p.Write(reg, v)
			isSame(t, "NEXT", p.Next(), want)
		}
	}
}

// O2: what 5 and 0 tell of NEXT is seen in where a byte is written, too: behind a second write of 6 alone.
func TestNextSeen(t *testing.T) {
	p, _ := made(1)
	to(p, 0x2000)
	p.Write(6, 0x2C) // first
	p.Write(5, 0xC7) // second: bits 12 to 14 are 7, bits 5 to 9 are 18, so that the table is 3 as by 2C
	isSame(t, "AT", p.At(), 0x2000)
	p.Write(5, 0xFF) // first
	p.Write(0, 1)    // the table is 1
	isSame(t, "AT", p.At(), 0x2000)
	p.Write(6, 0x66) // second
	isSame(t, "AT", p.At(), 0x7766)
	p.Write(7, 0x5A)
	isSame(t, "where VRAM is mirrored as the second half", p.VRAM(0x766), 0x5A)
}
