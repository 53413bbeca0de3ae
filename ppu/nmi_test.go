package ppu_test

import (
	"testing"

	"picklock/ppu"
)

// isAsked fails if an NMI isn't told as it is wanted, or is told twice.
func isAsked(t *testing.T, what string, p *ppu.PPU, want bool) {
	t.Helper()
	isSame(t, what, p.NMI(), want)
	isSame(t, what+", asked again", p.NMI(), false)
}

// allowedAt makes a chip whose CTRL has bit 7, behind so many dots.
func allowedAt(dots int) *ppu.PPU {
	p, _ := made(0)
	p.Write(0, 0x80)
	p.Run(dots)
	return p
}

// O3: an NMI is asked for at the dot at which VBLANK is set, if CTRL's bit 7 stands, and told once; neither one dot sooner, nor again one dot later.
func TestNMIByTime(t *testing.T) {
	for ctrl := range 256 {
		p, _ := made(0)
		p.Write(0, byte(ctrl))
		p.Run(frameDot - 1)
		isAsked(t, "one dot sooner", p, false)
		p.Run(1)
		isAsked(t, "at that dot", p, ctrl&0x80 != 0)
		p.Run(1)
		isAsked(t, "one dot later", p, false)
		p.Run(pictureDots - 2)
		isAsked(t, "one picture later, but for one dot", p, false)
		p.Run(1)
		isAsked(t, "one picture later", p, ctrl&0x80 != 0)
	}
}

// O3: one is asked for where CTRL's bit 7 is written while VBLANK stands, be it at its first or its last dot.
func TestNMIByWrite(t *testing.T) {
	for _, x := range []struct {
		dots int
		want bool
	}{{0, false}, {frameDot - 1, false}, {frameDot, true}, {frameDot + 1, true}, {frameDot + 5000, true}, {clearDot - 1, true}, {clearDot, false}, {clearDot + 1, false}, {pictureDots + frameDot - 1, false}, {pictureDots + frameDot, true}} {
		for _, ctrl := range []byte{0x80, 0xFF, 0x84, 0x7F, 0} {
			p, _ := made(0)
			p.Run(x.dots)
			isAsked(t, "ahead of it", p, false)
			p.Write(0, ctrl)
			isAsked(t, "behind it", p, x.want && ctrl&0x80 != 0)
		}
	}
}

// O3: a write to another register than 0 asks for none.
func TestNMIByOther(t *testing.T) {
	for reg := 1; reg < 8; reg++ {
		p, _ := made(0)
		p.Run(frameDot)
		p.Write(reg, 0x80)
		p.Write(reg, 0xFF)
		isAsked(t, "by another register", p, false)
		p = allowedAt(frameDot)
		p.NMI()
		p.Write(reg, 0)
		p.Write(reg, 0x80)
		isAsked(t, "by another register", p, false)
	}
}

// O3: none is asked for again, while both stay set: not by time, and not by CTRL's being written with bit 7 again.
func TestNMIOnce(t *testing.T) {
	p := allowedAt(frameDot)
	isAsked(t, "first", p, true)
	for n := frameDot; n < clearDot+100; n++ {
		p.Run(1)
		p.Write(0, 0x80|byte(n))
		if p.NMI() {
			t.Fatalf("again behind %d dots", n+1)
		}
	}
}

// O3: one is asked for again, after CTRL's bit 7 was cleared and set, as often as that is done.
func TestNMIByCTRLAgain(t *testing.T) {
	p := allowedAt(frameDot)
	isAsked(t, "first", p, true)
	for range 10 {
		p.Write(0, 0x7F)
		isAsked(t, "cleared", p, false)
		p.Run(3)
		p.Write(0, 0x80)
		isAsked(t, "set", p, true)
	}
}

// O3: one is asked for again, after VBLANK was cleared by a read of 2, and set by time; not by CTRL's being written in between.
func TestNMIByStatusAgain(t *testing.T) {
	p := allowedAt(frameDot)
	isAsked(t, "first", p, true)
	for range 5 {
		isSame(t, "VBLANK", p.Read(2)&0x80, 0x80)
		p.Write(0, 0)
		p.Write(0, 0x80)
		isAsked(t, "without VBLANK", p, false)
		p.Run(pictureDots - 1)
		isAsked(t, "one dot sooner", p, false)
		p.Run(1)
		isAsked(t, "set by time", p, true)
	}
}

// O3: one is asked for again, after VBLANK was cleared by time, and set: with each picture.
func TestNMIByTimeAgain(t *testing.T) {
	p := allowedAt(frameDot)
	for range 5 {
		isAsked(t, "set by time", p, true)
		p.Run(pictureDots)
	}
}

// O3: it stays asked for, if VBLANK, or CTRL's bit 7, is cleared ahead of NMI's being called, and is told once, however often it was asked for.
func TestNMIStays(t *testing.T) {
	p := allowedAt(frameDot)
	p.Read(2)
	isAsked(t, "VBLANK cleared by a read", p, true)
	p = allowedAt(frameDot)
	p.Run(clearDot)
	isAsked(t, "VBLANK cleared by time", p, true)
	p = allowedAt(frameDot)
	p.Write(0, 0)
	isAsked(t, "CTRL's bit 7 cleared", p, true)
	p = allowedAt(frameDot)
	p.Read(2)
	p.Write(0, 0)
	p.Run(pictureDots / 2)
	isAsked(t, "both cleared", p, true)
	p = allowedAt(frameDot + 7*pictureDots)
	p.Write(0, 0)
	p.Write(0, 0x80)
	isAsked(t, "asked for nine times", p, true)
}

// O3: to ask whether one was asked for changes nothing else: VBLANK and CTRL stand as they did.
func TestNMIChangesNothing(t *testing.T) {
	p := allowedAt(frameDot)
	p.Write(6, 0x21)
	want := lookOf(p)
	p.NMI()
	isLook(t, "NMI", p, want)
	p.Write(6, 0x43)
	isSame(t, "AT", p.At(), 0x2143)
	isSame(t, "VBLANK", p.Read(2), 0x83)
}
