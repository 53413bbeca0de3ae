package ppu_test

import "testing"

// O2: what is written to 3 is OAM's address, at which 4 reads and writes.
func TestOAMAddress(t *testing.T) {
	l := [oamBytes]byte(chance(1, oamBytes))
	p, _ := made(0)
	p.Fill(l)
	for a := range oamBytes {
		p.Write(3, byte(a))
		isSame(t, "OAM", p.OAM(a), l[a])
		isSame(t, "what is read", p.Read(4), l[a])
		p.Write(4, l[a]^0xFF)
		isSame(t, "OAM", p.OAM(a), l[a]^0xFF)
		want := l
		want[a] ^= 0xFF
		isLook(t, "written", p, look{oam: want})
		p.Write(3, byte(a))
		p.Write(4, l[a])
	}
}

// O2: the address stays with a read, and is one more behind a write, counted round.
func TestOAMGoesOn(t *testing.T) {
	for a := range oamBytes {
		p, _ := made(0)
		p.Write(3, byte(a))
		for range 3 {
			isSame(t, "what is read", p.Read(4), 0)
		}
		var want look
		for n := range oamBytes + 3 {
			v := byte(n + 1)
			p.Write(4, v)
			want.oam[(a+n)%oamBytes] = v
		}
		isLook(t, "written", p, want)
		isSame(t, "what is read", p.Read(4), want.oam[(a+3)%oamBytes])
	}
}

// O2: all of a byte's bits are kept in OAM.
func TestOAMBits(t *testing.T) {
	p, _ := made(0)
	for v := range 256 {
		p.Write(3, 7)
		p.Write(4, byte(v))
		isSame(t, "OAM", p.OAM(7), byte(v))
		p.Write(3, 7)
		isSame(t, "what is read", p.Read(4), byte(v))
	}
}

// O2: Fill writes all of OAM, from OAM's address on, counted round; the address stays, and nothing else changes.
func TestFill(t *testing.T) {
	l := [oamBytes]byte(chance(2, oamBytes))
	for a := range oamBytes {
		p, c := made(0)
		scramble(p, a)
		calls := len(c.calls)
		p.Write(3, byte(a))
		want := lookOf(p)
		p.Fill(l)
		for i, v := range l {
			want.oam[(a+i)%oamBytes] = v
		}
		isLook(t, "filled", p, want)
		isSame(t, "calls of the cart", len(c.calls), calls)
		isSame(t, "what is read", p.Read(4), l[0])
		isSame(t, "LAST", p.Read(3), byte(a))
		p.Write(4, l[0]+1)
		isSame(t, "OAM at the address", p.OAM(a), l[0]+1)
	}
}

// R1: what Fill was handed may be written over, and stays as it was.
func TestFillKept(t *testing.T) {
	p, _ := made(0)
	l := [oamBytes]byte{1, 2, 3}
	p.Fill(l)
	isSame(t, "what was handed in", l, [oamBytes]byte{1, 2, 3})
	l[1] = 9
	isSame(t, "OAM", p.OAM(1), 2)
	p.Write(3, 2)
	p.Write(4, 8)
	isSame(t, "what was handed in", l, [oamBytes]byte{1, 9, 3})
}

// O2: nothing but 3 and 4 moves OAM's address.
func TestOAMAddressStays(t *testing.T) {
	p, _ := made(0)
	p.Write(3, 0x80)
	for _, reg := range []int{0, 1, 2, 5, 6, 7} {
		p.Write(reg, 0xFF)
	}
	for reg := range 8 {
		p.Read(reg)
	}
	p.Run(pictureDots + 5)
	p.Write(4, 0x99)
	isSame(t, "OAM", p.OAM(0x80), 0x99)
}
