package ppu_test

import (
	"testing"

	"picklock/ines"
	"picklock/ppu"
)

// O2: a read of 7 below 3F00 tells BUFFER, which is the byte at AT from then on: that of the cart, and that of VRAM.
func TestReadLater(t *testing.T) {
	p, c := made(1)
	copy(c.m[0x1000:], []byte{0x11, 0x12, 0x13})
	put(p, 0x2400, 0x21, 0x22, 0x23)
	isList(t, "the cart's", get(p, 0x1000, 3), []byte{0, 0x11, 0x12})
	isList(t, "VRAM's", get(p, 0x2400, 3), []byte{0x13, 0x21, 0x22})
	isList(t, "both", get(p, 0x1000, 2), []byte{0x23, 0x11})
	isList(t, "from the cart's to VRAM", get(p, 0x1FFF, 3), []byte{0x12, 0, 0})
}

// O2: BUFFER is the byte that was there when it was read, whatever was written since, and to whichever address AT was set.
func TestBufferStays(t *testing.T) {
	p, c := made(1)
	c.m[0x10] = 1
	get(p, 0x10, 1)
	c.m[0x10] = 2
	put(p, 0x2010, 3)
	for _, reg := range []int{0, 1, 2, 3, 4, 5, 6} {
		p.Write(reg, 0)
		p.Read(reg)
	}
	p.Run(pictureDots)
	isSame(t, "BUFFER", get(p, 0x2010, 1)[0], 1)
	isSame(t, "BUFFER behind it", get(p, 0x10, 1)[0], 3)
	isSame(t, "BUFFER behind it", get(p, 0x10, 1)[0], 2)
}

// O2: from 3F00 on the palette's byte is told at once, and BUFFER is the byte at the address less 1000.
func TestReadPalette(t *testing.T) {
	for a := paletteStart; a < memoryEnd; a++ {
		p, c := made(1)
		copy(c.m[:], chance(1, ownStart))
		put(p, 0x2000, chance(2, vramBytes)...)
		put(p, paletteStart, chance(3, paletteBytes)...)
		get(p, 0x1234, 1)
		calls := len(c.calls)
		want := p.Palette(a % paletteBytes)
		if a%4 == 0 {
			want = p.Palette(a % 16)
		}
		isSame(t, "the palette's byte", get(p, uint16(a), 1)[0], want)
		isSame(t, "calls of the cart", len(c.calls), calls)
		// By Vertical what lies 1000 below 3F00 is in the second half.
		isSame(t, "BUFFER", get(p, 0, 1)[0], p.VRAM(a-0x3000-0x2000/4))
		if t.Failed() {
			t.Fatalf("at %X", a)
		}
	}
}

// O2: an AT of 3EFF is VRAM's still, one of 3F00 the palette's, one of 4000 the cart's first one.
func TestReadEdges(t *testing.T) {
	p, c := made(0)
	c.m[0], c.m[0x1FFF] = 0x41, 0x42
	put(p, 0x2000, 0x51)
	put(p, 0x2EFF, 0x52, 0x53)
	put(p, 0x3F00, 0x14)
	put(p, 0x3FFF, 0x15)
	put(p, 0x2FFF, 0x56)
	isList(t, "around 2000", get(p, 0x1FFF, 3), []byte{0, 0x42, 0x51})
	get(p, 0x10, 1)
	isList(t, "around 3F00", get(p, 0x3EFF, 2), []byte{0, 0x14})
	isSame(t, "BUFFER", get(p, 0x10, 1)[0], 0x53)
	isList(t, "around 4000", get(p, 0x3FFF, 3), []byte{0x15, 0x56, 0x41})
	isSame(t, "AT", p.At(), 0x4002)
}

// O2: what is written lies at AT at once, leaves BUFFER, and is read there.
func TestWriteData(t *testing.T) {
	p, c := made(3)
	c.m[0x77] = 0x99
	get(p, 0x77, 1)
	put(p, 0x0123, 0x31)
	put(p, 0x2123, 0x32)
	put(p, 0x3F03, 0x33)
	isList(t, "the cart", c.calls, []call{{'r', 0x77, 0x99}, {'w', 0x123, 0x31}})
	isSame(t, "VRAM", p.VRAM(0x400+0x123), 0x32)
	isSame(t, "Palette", p.Palette(3), 0x33)
	isSame(t, "BUFFER", get(p, 0x123, 1)[0], 0x99)
	isSame(t, "the cart's byte", p.Read(7), 0x31)
}

// O2: of AT's bits the lowest fourteen count where a byte is read and written: bit 14 stands for nothing.
func TestLowestFourteen(t *testing.T) {
	for _, a := range []uint16{0, 0x1FFF, 0x2000, 0x2ABC, 0x3EFF, 0x3F00, 0x3F11, 0x3FFF} {
		p := fromNext(t, 0x4000|a)
		// A second write to 6 makes AT NEXT, bit 14 too.
		p.Write(5, byte(a)<<3)
		p.Write(6, byte(a))
		isSame(t, "AT", p.At(), 0x4000|a)
		p.Write(7, 0x2A)
		isSame(t, "AT", p.At(), ((0x4000|a)+1)&0x7FFF)
		isSame(t, "the byte that was written", there(p, a), 0x2A)
		p.Read(2)
		q := fromNext(t, 0x4000|a)
		put(q, a, 0x2B)
		for _, v := range []byte{byte(a) << 3, byte(a>>12) | 4 | byte(a>>5)<<3} {
			q.Write(5, v)
		}
		q.Write(5, byte(a)<<3)
		q.Write(6, byte(a))
		isSame(t, "AT", q.At(), 0x4000|a)
		v := q.Read(7)
		if a < paletteStart {
			v = get(q, 0x2000, 1)[0]
		}
		isSame(t, "the byte that is read", v, 0x2B)
	}
}

// O2: AT goes on behind each read and each write of 7, by 1, or by 32 if CTRL's bit 2 is set, counted round at fifteen bits.
func TestGoesOn(t *testing.T) {
	for ctrl := range 256 {
		by := uint16(1)
		if ctrl&4 != 0 {
			by = 32
		}
		for _, n := range nexts() {
			p := fromNext(t, n)
			p.Write(0, 0)
			n = n &^ 0x0C00
			p.Write(5, byte(n)<<3)
			p.Write(6, byte(n))
			p.Write(0, byte(ctrl))
			isSame(t, "AT", p.At(), n)
			p.Read(7)
			isSame(t, "AT behind a read", p.At(), (n+by)%0x8000)
			p.Write(7, 0)
			isSame(t, "AT behind a write", p.At(), (n+2*by)%0x8000)
		}
	}
}

// O2: at AT's end both ways of going on come round.
func TestGoesRound(t *testing.T) {
	for _, x := range []struct {
		ctrl  byte
		n, at uint16
	}{{0, 0x7FFF, 0}, {4, 0x7FFF, 0x1F}, {4, 0x7FE0, 0}, {4, 0x7FDF, 0x7FFF}, {0, 0x7FFE, 0x7FFF}, {0, 0x3FFF, 0x4000}, {4, 0x3FE1, 0x4001}} {
		for _, write := range []bool{false, true} {
			p := fromNext(t, x.n)
			p.Write(5, byte(x.n)<<3)
			p.Write(6, byte(x.n))
			p.Write(0, x.ctrl)
			if write {
				p.Write(7, 1)
			} else {
				p.Read(7)
			}
			isSame(t, "AT", p.At(), x.at)
		}
	}
}

// O2: nothing but 6 and 7 moves AT, and CTRL counts as it is when 7 is read or written.
func TestATStays(t *testing.T) {
	p, _ := made(1)
	to(p, 0x2345)
	for _, reg := range []int{0, 1, 2, 3, 4, 5} {
		p.Write(reg, 0xFF)
		p.Read(reg)
		isSame(t, "AT", p.At(), 0x2345)
	}
	p.Read(6)
	p.Fill([oamBytes]byte{1})
	p.Run(pictureDots * 2)
	isSame(t, "AT", p.At(), 0x2345)
	p.Write(0, 4)
	p.Write(7, 1)
	p.Write(0, 0)
	p.Write(7, 2)
	p.Write(0, 4)
	p.Write(7, 3)
	isSame(t, "AT", p.At(), 0x2386)
	isSame(t, "VRAM(345)", p.VRAM(0x345), 1)
	isSame(t, "VRAM(365)", p.VRAM(0x365), 2)
	isSame(t, "VRAM(366)", p.VRAM(0x366), 3)
}

// O2: a read or a write of 7 asks the cart once, with the address itself, if it is the cart's, and else not at all.
func TestCartAsked(t *testing.T) {
	for _, a := range []uint16{0, 1, 0xFFF, 0x1000, 0x1FFF, 0x2000, 0x2001, 0x3EFF, 0x3F00, 0x3FFF} {
		p, c := made(2)
		to(p, a)
		p.Write(7, 0xB7)
		to(p, a)
		p.Read(7)
		var want []call
		if a < ownStart {
			want = []call{{'w', a, 0xB7}, {'r', a, 0xB7}}
		}
		isList(t, "calls", c.calls, want)
	}
}

// The chapter's example.
func TestExample(t *testing.T) {
	p := ppu.New(&ppu.Plain{M: ines.Horizontal})
	p.Write(6, 0x20)
	p.Write(6, 5)
	p.Write(7, 9)
	isSame(t, "VRAM(5)", p.VRAM(5), 9)
}
