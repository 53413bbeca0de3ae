package mos_test

import (
	"testing"

	"picklock/mos"
)

// N2: each opcode of the table takes its cycles where no address is crossed and no branch is taken, and does not halt.
func TestCycles(t *testing.T) {
	for opcode, e := range entries(t) {
		// A branch is taken by its flag: one of both ways it isn't.
		least := 100
		for _, p := range []byte{0, mos.N | mos.V | mos.C | mos.Z} {
			bus := memory(t, "201: 10 3")
			bus.m[0x200] = opcode
			c := mos.CPU{PC: 0x200, X: 1, Y: 1, S: 0x80, P: p}
			least = min(least, c.Step(bus))
			isSame(t, hex(int(opcode))+": halted", c.Halted, false)
		}
		isSame(t, hex(int(opcode))+" "+e.name+": cycles", least, e.cycles)
	}
}

// N2: each opcode that stands not in the table halts: PC and all else stays, nothing is read but it, nothing is written, 0 cycles. There are 105 of them.
func TestHalting(t *testing.T) {
	all := entries(t)
	halting := 0
	for opcode := range 256 {
		if all[byte(opcode)].name != "" {
			continue
		}
		halting++
		for seed := range 20 {
			c := chanceCPU(seed)
			bus := &noting{m: map[uint16]byte{c.PC: byte(opcode)}, under: underOf(seed)}
			want, at := c, c.PC
			want.Halted = true
			isSame(t, hex(opcode)+": cycles", c.Step(bus), 0)
			isSame(t, hex(opcode)+": CPU", c, want)
			isList(t, hex(opcode)+": seen", bus.seen, []access{{false, at, byte(opcode)}})
		}
	}
	isSame(t, "opcodes that halt", halting, 105)
}

// N2: halted, a step does nothing, whatever is at PC.
func TestHalted(t *testing.T) {
	for opcode := range 256 {
		bus := &noting{m: map[uint16]byte{0x200: byte(opcode)}}
		c := chanceCPU(opcode)
		c.PC, c.Halted = 0x200, true
		before := c
		for range 3 {
			isSame(t, "cycles", c.Step(bus), 0)
		}
		isSame(t, "CPU", c, before)
		isSame(t, "seen", told(bus.seen), "")
	}
}

// N2: which has halted by an opcode stays so, also where another one stands there later.
func TestStaysHalted(t *testing.T) {
	bus := memory(t, "200: 2")
	c := mos.CPU{PC: 0x200}
	c.Step(bus)
	bus.m[0x200] = 0xEA
	isSame(t, "cycles", c.Step(bus), 0)
	isSame(t, "CPU", c, mos.CPU{PC: 0x200, Halted: true})
	isSame(t, "seen", told(bus.seen), "200")
	c.Halted = false
	isSame(t, "cycles of one that goes on", c.Step(bus), 2)
}

// N2, the chapter's example.
func TestExample(t *testing.T) {
	steps(t, []one{{"200: A9 80", mos.CPU{PC: 0x200}, mos.CPU{A: 0x80, P: mos.N, PC: 0x202}, 2, "200 201"}})
}

// N2: PC goes on by one for the opcode and for each byte of the operand, counted round.
func TestRound(t *testing.T) {
	steps(t, []one{
		{"FFFF: EA", mos.CPU{PC: 0xFFFF}, mos.CPU{PC: 0}, 2, "FFFF"},
		{"FFFF: A9 0: 7", mos.CPU{PC: 0xFFFF}, mos.CPU{A: 7, PC: 1}, 2, "FFFF 0"},
		{"FFFE: A9 7", mos.CPU{PC: 0xFFFE}, mos.CPU{A: 7, PC: 0}, 2, "FFFE FFFF"},
		{"FFFE: A5 40 40: 7", mos.CPU{PC: 0xFFFE}, mos.CPU{A: 7, PC: 0}, 3, "FFFE FFFF 40"},
		{"FFFE: AD 34 0: 12 1234: 7", mos.CPU{PC: 0xFFFE}, mos.CPU{A: 7, PC: 1}, 4, "FFFE FFFF 0 1234"},
		{"FFFF: AD 0: 34 12 1234: 7", mos.CPU{PC: 0xFFFF}, mos.CPU{A: 7, PC: 2}, 4, "FFFF 0 1 1234"},
		{"FFFF: D0 0: 10", mos.CPU{PC: 0xFFFF}, mos.CPU{PC: 0x11}, 3, "FFFF 0"},
		{"FFFF: 20 0: 34 12", mos.CPU{PC: 0xFFFF, S: 0xFF}, mos.CPU{PC: 0x1234, S: 0xFD}, 6, "FFFF 0 1 1FF=0 1FE=1"},
		{"FFFD: 20 34 12", mos.CPU{PC: 0xFFFD, S: 0xFF}, mos.CPU{PC: 0x1234, S: 0xFD}, 6, "FFFD FFFE FFFF 1FF=FF 1FE=FF"},
	})
}
