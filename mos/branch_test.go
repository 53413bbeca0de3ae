package mos_test

import (
	"testing"

	"picklock/mos"
)

// branches tells the eight branches, each with its flag, and whether it asks that it be set.
func branches() []struct {
	opcode byte
	flag   byte
	set    bool
} {
	return []struct {
		opcode byte
		flag   byte
		set    bool
	}{{0x10, mos.N, false}, {0x30, mos.N, true}, {0x50, mos.V, false}, {0x70, mos.V, true}, {0x90, mos.C, false}, {0xB0, mos.C, true}, {0xD0, mos.Z, false}, {0xF0, mos.Z, true}}
}

// N2: a branch is taken if its flag is as it asks, whatever the other flags are; both bytes are read all the same, and nothing else changes but PC.
func TestBranches(t *testing.T) {
	for _, b := range branches() {
		for p := range 256 {
			if p&(mos.B|mos.U) != 0 {
				continue
			}
			bus := memory(t, "201: 10")
			bus.m[0x200] = b.opcode
			c := mos.CPU{A: 1, X: 2, Y: 3, S: 4, P: byte(p), PC: 0x200}
			want, cycles := c, 2
			want.PC = 0x202
			if byte(p)&b.flag != 0 == b.set {
				want.PC, cycles = 0x212, 3
			}
			isSame(t, hex(int(b.opcode))+": cycles", c.Step(bus), cycles)
			isSame(t, hex(int(b.opcode))+": CPU", c, want)
			isSame(t, hex(int(b.opcode))+": seen", told(bus.seen), "200 201")
		}
	}
}

// N2: PC, behind the instruction, goes on by a number from -128 to 127, with one cycle more, and another one if its page is another one then.
func TestBranchPlaces(t *testing.T) {
	for _, x := range []struct {
		pc     uint16
		by     byte
		to     uint16
		cycles int
	}{
		{0x200, 0, 0x202, 3},
		{0x200, 0x7F, 0x281, 3},
		{0x200, 0x80, 0x182, 4},
		{0x200, 0xFE, 0x200, 3},
		{0x200, 0xFD, 0x1FF, 4},
		{0x280, 0x80, 0x202, 3},
		{0x2F0, 0x0D, 0x2FF, 3},
		{0x2F0, 0x0E, 0x300, 4},
		{0x2F0, 0x7F, 0x371, 4},
		// The page is that of PC behind the instruction, wherever the instruction lies.
		{0x2FE, 0, 0x300, 3},
		{0x2FE, 0xFF, 0x2FF, 4},
		{0x2FE, 0x10, 0x310, 3},
		{0x2FD, 0, 0x2FF, 3},
		{0x2FD, 1, 0x300, 4},
		{0x2FF, 0xFE, 0x2FF, 4},
		{0x2FF, 0xFF, 0x300, 3},
		// Counted round at 10000.
		{0xFFF0, 0x20, 0x12, 4},
		{0xFFFE, 0x20, 0x20, 3},
		{0xFFFE, 0xFE, 0xFFFE, 4},
		{0, 0x80, 0xFF82, 4},
		{0, 0xFE, 0, 3},
	} {
		for _, b := range branches() {
			c := mos.CPU{PC: x.pc}
			if b.set {
				c.P = b.flag
			}
			want := c
			want.PC = x.to
			bus := &noting{m: map[uint16]byte{x.pc: b.opcode, x.pc + 1: x.by}}
			isSame(t, hex(int(b.opcode))+" at "+hex(int(x.pc))+": cycles", c.Step(bus), x.cycles)
			isSame(t, hex(int(b.opcode))+" at "+hex(int(x.pc))+": CPU", c, want)
			isSame(t, hex(int(b.opcode))+" at "+hex(int(x.pc))+": seen", told(bus.seen), hex(int(x.pc))+" "+hex(int(x.pc+1)))
		}
	}
}

// N2: a branch that is not taken takes 2 cycles, also where it would have led into another page.
func TestBranchNotTaken(t *testing.T) {
	for _, b := range branches() {
		c := mos.CPU{PC: 0x200}
		if !b.set {
			c.P = b.flag
		}
		want := c
		want.PC = 0x202
		bus := &noting{m: map[uint16]byte{0x200: b.opcode, 0x201: 0x80}}
		isSame(t, hex(int(b.opcode))+": cycles", c.Step(bus), 2)
		isSame(t, hex(int(b.opcode))+": CPU", c, want)
	}
}
