package mos_test

import (
	"testing"

	"picklock/mos"
)

// interrupt makes the call of an interrupt by a vector.
func interrupt(vector uint16) func(c *mos.CPU, b mos.Bus) int {
	return func(c *mos.CPU, b mos.Bus) int { return c.Interrupt(b, vector) }
}

func reset(c *mos.CPU, b mos.Bus) int { return c.Reset(b) }

// N3: Interrupt pushes PC, its highest byte first, then P with U and not B; I is set, whether or not it was; PC is the word at the vector; 7.
func TestInterrupt(t *testing.T) {
	one{"FFFA: 34 12", mos.CPU{A: 1, X: 2, Y: 3, S: 0xFD, PC: 0x8765}, mos.CPU{A: 1, X: 2, Y: 3, S: 0xFA, P: mos.I, PC: 0x1234}, 7, "1FD=87 1FC=65 1FB=20 FFFA FFFB"}.check(t, interrupt(0xFFFA))
	one{"FFFE: 34 12", mos.CPU{S: 0xFD, P: mos.I, PC: 0x8765}, mos.CPU{S: 0xFA, P: mos.I, PC: 0x1234}, 7, "1FD=87 1FC=65 1FB=24 FFFE FFFF"}.check(t, interrupt(0xFFFE))
	one{"FFFE: 34 12", mos.CPU{S: 0xFD, P: all, PC: 0x8765}, mos.CPU{S: 0xFA, P: all, PC: 0x1234}, 7, "1FD=87 1FC=65 1FB=EF FFFE FFFF"}.check(t, interrupt(0xFFFE))
	one{"40: 34 12", mos.CPU{S: 0xFD, P: mos.N | mos.C, PC: 0xFF00}, mos.CPU{S: 0xFA, P: mos.N | mos.C | mos.I, PC: 0x1234}, 7, "1FD=FF 1FC=0 1FB=A1 40 41"}.check(t, interrupt(0x40))
}

// N1, N3: an interrupt pushes U and not B, whatever the CPU was handed in with.
func TestInterruptPushesU(t *testing.T) {
	for p := range 256 {
		bus := memory(t, "")
		c := mos.CPU{S: 0xFF, P: byte(p)}
		c.Interrupt(bus, 0xFFFA)
		isSame(t, hex(p)+": P that is pushed", bus.m[0x1FD], byte(p)&^16|32)
	}
}

// N3: S is counted round within its page by what an interrupt pushes.
func TestInterruptRound(t *testing.T) {
	one{"FFFA: 34 12", mos.CPU{S: 0, PC: 0x8765}, mos.CPU{S: 0xFD, P: mos.I, PC: 0x1234}, 7, "100=87 1FF=65 1FE=20 FFFA FFFB"}.check(t, interrupt(0xFFFA))
	one{"FFFA: 34 12", mos.CPU{S: 1, PC: 0x8765}, mos.CPU{S: 0xFE, P: mos.I, PC: 0x1234}, 7, "101=87 100=65 1FF=20 FFFA FFFB"}.check(t, interrupt(0xFFFA))
	one{"FFFA: 34 12", mos.CPU{S: 0xFF, PC: 0x8765}, mos.CPU{S: 0xFC, P: mos.I, PC: 0x1234}, 7, "1FF=87 1FE=65 1FD=20 FFFA FFFB"}.check(t, interrupt(0xFFFA))
}

// N3: the word at the vector is counted round at 10000, and not within a page.
func TestVectors(t *testing.T) {
	one{"FFFF: 34 0: 12 FF00: 99", mos.CPU{S: 0xFF, PC: 0x8765}, mos.CPU{S: 0xFC, P: mos.I, PC: 0x1234}, 7, "1FF=87 1FE=65 1FD=20 FFFF 0"}.check(t, interrupt(0xFFFF))
	one{"3FF: 34 12 300: 99", mos.CPU{S: 0xFF, PC: 0x8765}, mos.CPU{S: 0xFC, P: mos.I, PC: 0x1234}, 7, "1FF=87 1FE=65 1FD=20 3FF 400"}.check(t, interrupt(0x3FF))
	// The word is read behind what is pushed: where it lies there, that is it.
	one{"1FD: 34 12", mos.CPU{S: 0xFF, PC: 0x8765}, mos.CPU{S: 0xFC, P: mos.I, PC: 0x6520}, 7, "1FF=87 1FE=65 1FD=20 1FD 1FE"}.check(t, interrupt(0x1FD))
}

// N3: halted, an interrupt does nothing, 0.
func TestInterruptHalted(t *testing.T) {
	halted := mos.CPU{A: 1, X: 2, Y: 3, S: 4, P: mos.C, PC: 0x8765, Halted: true}
	for _, vector := range []uint16{0xFFFA, 0xFFFE, 0} {
		one{"FFFA: 34 12 34 12 34 12", halted, halted, 0, ""}.check(t, interrupt(vector))
	}
}

// N3: Reset: A, X, Y are 0, S is FD, P is I, it is not halted, PC is the word at FFFC; nothing is written; 7.
func TestReset(t *testing.T) {
	want := mos.CPU{S: 0xFD, P: mos.I, PC: 0x1234}
	for _, before := range []mos.CPU{{}, {A: 1, X: 2, Y: 3, S: 4, P: all &^ mos.I, PC: 5}, {A: 1, X: 2, Y: 3, S: 4, P: all, PC: 5, Halted: true}, {Halted: true}} {
		one{"FFFA: 99 99 34 12 99 99", before, want, 7, "FFFC FFFD"}.check(t, reset)
	}
}

// N3: behind a reset it goes on, also if it was halted; an interrupt is done, too.
func TestResetGoesOn(t *testing.T) {
	bus := memory(t, "200: 2 300: A9 5 FFFA: 0 4 0 3")
	c := mos.CPU{PC: 0x200}
	isSame(t, "cycles of what halts", c.Step(bus), 0)
	isSame(t, "cycles of an interrupt", c.Interrupt(bus, 0xFFFA), 0)
	isSame(t, "cycles of a reset", c.Reset(bus), 7)
	isSame(t, "cycles of LDA", c.Step(bus), 2)
	isSame(t, "cycles of an interrupt", c.Interrupt(bus, 0xFFFA), 7)
	isSame(t, "CPU", c, mos.CPU{A: 5, S: 0xFA, P: mos.I, PC: 0x400})
}
