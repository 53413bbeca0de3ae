package ppu_test

import (
	"math"
	"testing"

	"picklock/ppu"
)

// numbers tells some numbers that are reg modulo 8, below 0 and above 7, too.
func numbers(reg int) []int {
	return []int{reg, reg + 8, reg + 16, reg + 0x2000, reg + 0x1FF8, reg - 8, reg - 16, reg - 8000, math.MaxInt - 7 + reg, math.MinInt + reg}
}

// O2: a register's number counts modulo 8, in Write.
func TestNumberWritten(t *testing.T) {
	for reg := range 8 {
		p, _ := made(0)
		scramble(p, reg)
		p.Write(reg, 0x9D)
		p.Write(reg, 0x2E)
		want := lookOf(p)
		for _, n := range numbers(reg) {
			p, _ := made(0)
			scramble(p, reg)
			p.Write(n, 0x9D)
			p.Write(n, 0x2E)
			isLook(t, "written", p, want)
			isSame(t, "LAST", p.Read(n&^7), 0x2E)
		}
	}
}

// O2: a register's number counts modulo 8, in Read.
func TestNumberRead(t *testing.T) {
	for reg := range 8 {
		p, _ := made(0)
		scramble(p, reg+20)
		p.Run(frameDot)
		first, second := p.Read(reg), p.Read(reg)
		want := lookOf(p)
		for _, n := range numbers(reg) {
			p, _ := made(0)
			scramble(p, reg+20)
			p.Run(frameDot)
			isSame(t, "first read", p.Read(n), first)
			isSame(t, "second read", p.Read(n), second)
			isLook(t, "read", p, want)
		}
	}
}

// O2: LAST is what was written last, to whichever register, and it is what is read of 0, 1, 3, 5 and 6; a read of it changes nothing.
func TestLast(t *testing.T) {
	for reg := range 8 {
		p, c := made(0)
		for v := range 256 {
			p.Write(reg, byte(v))
			want, calls := lookOf(p), len(c.calls)
			for _, other := range []int{0, 1, 3, 5, 6, 9} {
				isSame(t, "LAST", p.Read(other), byte(v))
			}
			isLook(t, "LAST read", p, want)
			isSame(t, "calls of the cart", len(c.calls), calls)
			isSame(t, "LAST's lowest bits", p.Read(2), byte(v)%32)
		}
	}
}

// O2: a read of 0, 1, 3, 5 or 6 clears neither VBLANK nor SECOND, and no other read does but that of 2.
func TestNotCleared(t *testing.T) {
	for _, reg := range []int{0, 1, 3, 4, 5, 6, 7} {
		p, _ := made(0)
		p.Run(frameDot)
		p.Write(6, 0x21)
		p.Read(reg)
		p.Write(6, 0x43)
		isSame(t, "AT", p.At()&^1, 0x2142)
		p.Write(0, 0)
		isSame(t, "VBLANK", p.Read(2), 0x80)
	}
}

// O2: what is read of 4 or 7 isn't LAST, and LAST isn't what was read, nor what Fill writes.
func TestLastIsWritten(t *testing.T) {
	p, _ := made(0)
	put(p, 0x2000, 0x71)
	p.Write(3, 5)
	p.Write(4, 0x72)
	p.Write(3, 5)
	isSame(t, "read of 4", p.Read(4), 0x72)
	isSame(t, "LAST", p.Read(0), 5)
	isList(t, "read of 7", get(p, 0x2000, 2), []byte{0, 0x71})
	isSame(t, "LAST", p.Read(1), 0)
	p.Fill([oamBytes]byte(chance(4, oamBytes)))
	isSame(t, "LAST", p.Read(1), 0)
}

// O2: a read of 2 tells bit 80 if VBLANK stands, and LAST's lowest five bits; VBLANK is cleared behind it.
func TestStatus(t *testing.T) {
	for v := range 256 {
		p, c := made(0)
		p.Run(frameDot)
		p.Write(2, byte(v))
		want := lookOf(p)
		isSame(t, "with VBLANK", p.Read(2), 0x80|byte(v)%32)
		isSame(t, "without", p.Read(2), byte(v)%32)
		isLook(t, "read", p, want)
		isSame(t, "calls of the cart", len(c.calls), 0)
	}
}

// O2: SECOND is cleared by a read of 2, whichever of 5 and 6 had set it, also where VBLANK doesn't stand.
func TestStatusSecond(t *testing.T) {
	for _, reg := range []int{5, 6} {
		for _, dots := range []int{0, frameDot} {
			p, _ := made(0)
			p.Run(dots)
			p.Write(reg, 0x3F)
			p.Read(2)
			to(p, 0x2155)
			isSame(t, "AT", p.At(), 0x2155)
			p.Write(reg, 0x3F)
			p.Read(2)
			p.Read(2)
			to(p, 0x1234)
			isSame(t, "AT", p.At(), 0x1234)
		}
	}
}

// O2: of what is written to 2 nothing happens but that it is LAST.
func TestStatusWritten(t *testing.T) {
	for seed := range 20 {
		p, c := made(0)
		scramble(p, seed)
		q, _ := made(0)
		scramble(q, seed)
		calls := len(c.calls)
		for v := range 256 {
			p.Write(2, byte(v))
		}
		isLook(t, "2 written", p, lookOf(q))
		isSame(t, "calls of the cart", len(c.calls), calls)
		p.Write(2, q.Read(1))
		asTold(t, p, q)
	}
}

// asTold fails if one of many calls answers something else of p than of q.
func asTold(t *testing.T, p, q *ppu.PPU) {
	t.Helper()
	isSame(t, "NMI", p.NMI(), q.NMI())
	for i, v := range chance(77, 3000) {
		reg := int(v) % 8
		if i%3 == 0 {
			p.Run(int(v) * 50)
			q.Run(int(v) * 50)
		}
		if v < 128 {
			isSame(t, "read", p.Read(reg), q.Read(reg))
		} else {
			p.Write(reg, v)
			q.Write(reg, v)
		}
		isSame(t, "NMI", p.NMI(), q.NMI())
		if t.Failed() {
			return
		}
	}
	isLook(t, "at last", p, lookOf(q))
}

// O2: MASK is v: what else is told of it is whether the cart's Clock is called (O3); nothing else changes.
func TestMaskWritten(t *testing.T) {
	for v := range 256 {
		p, _ := made(0)
		scramble(p, 3)
		want := lookOf(p)
		p.Write(1, byte(v))
		isLook(t, "MASK written", p, want)
	}
}
