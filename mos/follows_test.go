package mos_test

import (
	"testing"

	"picklock/mos"
)

// What follows: B and U are never set in P, whatever is done.
func TestNeverInP(t *testing.T) {
	for seed := range 200 {
		f := &mos.Flat{}
		copy(f.M[:], chance(seed, len(f.M)))
		c := mos.CPU{}
		c.Reset(f)
		for n := range 2000 {
			// What halts is gone past.
			if c.Halted {
				c.Halted = false
				c.PC++
			}
			if n%50 == 49 {
				c.Interrupt(f, 0xFFFA)
			} else {
				c.Step(f)
			}
			if c.P&(mos.B|mos.U) != 0 {
				t.Fatalf("P is %X at %X, step %d", c.P, c.PC, n)
			}
		}
	}
}

// back does two things to a CPU, from each S, and fails if the second one doesn't bring back all that the first one found.
func back(t *testing.T, what, code string, at uint16, first, second func(c *mos.CPU, b mos.Bus) int, spoil func(c *mos.CPU)) {
	t.Helper()
	for s := range 256 {
		bus := memory(t, code)
		c := chanceCPU(s)
		c.S, c.PC = byte(s), at
		before := c
		first(&c, bus)
		spoil(&c)
		second(&c, bus)
		isSame(t, what+", S", c.S, before.S)
		isSame(t, what+", A", c.A, before.A)
		isSame(t, what+", P", c.P, before.P)
		isSame(t, what+", X", c.X, before.X)
		isSame(t, what+", Y", c.Y, before.Y)
	}
}

// What follows: PHA and PLA bring back A, and PHP and PLP P, also where S is counted round.
func TestPulledIsPushed(t *testing.T) {
	back(t, "PHP and PLP", "200: 8 28", 0x200, step, step, func(c *mos.CPU) { c.P ^= all })
	for s := range 256 {
		bus := memory(t, "200: 48 68")
		c := chanceCPU(s)
		c.S, c.PC = byte(s), 0x200
		want := c
		want.PC = 0x202
		want.P &^= zn
		if c.A == 0 {
			want.P |= mos.Z
		}
		want.P |= c.A & mos.N
		c.Step(bus)
		c.A ^= 0xFF
		c.Step(bus)
		isSame(t, "PHA and PLA", c, want)
	}
}

// What follows: RTS goes on behind JSR, also where S, or PC, is counted round.
func TestJSRAndRTS(t *testing.T) {
	for s := range 256 {
		for _, at := range []uint16{0x200, 0x2FD, 0x2FE, 0x2FF, 0xFFFC, 0xFFFD, 0xFFFE, 0xFFFF} {
			bus := &noting{m: map[uint16]byte{at: 0x20, at + 1: 0x00, at + 2: 0x40, 0x4000: 0x60}}
			c := chanceCPU(s)
			c.S, c.PC = byte(s), at
			want := c
			want.PC = at + 3
			c.Step(bus)
			isSame(t, "PC of what is called", c.PC, 0x4000)
			c.Step(bus)
			isSame(t, "JSR and RTS", c, want)
		}
	}
}

// What follows: an interrupt and RTI bring back what was there; BRK and RTI go on one behind the next address.
func TestInterruptAndRTI(t *testing.T) {
	back(t, "an interrupt and RTI", "4000: 40 FFFA: 0 40", 0x8765, interrupt(0xFFFA), step, func(c *mos.CPU) { c.P ^= all })
	for s := range 256 {
		bus := memory(t, "200: 0 4000: 40 FFFA: 0 40 0 0 0 40")
		c := chanceCPU(s)
		c.S, c.PC = byte(s), 0x200
		want := c
		c.Interrupt(bus, 0xFFFA)
		c.Step(bus)
		isSame(t, "an interrupt and RTI", c, want)
		want.PC = 0x202
		c.Step(bus)
		c.Step(bus)
		isSame(t, "BRK and RTI", c, want)
	}
}
