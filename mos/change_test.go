package mos_test

import (
	"testing"

	"picklock/mos"
)

// turned is what a shift makes of a byte, and the flags it sets by that.
type turned struct {
	name        string
	inA, memory string
	carry       byte
	v, r, p     byte
}

// N2: ASL, ROL, LSR, ROR of A, and of M, which is read and then written: C is the bit that goes, ROL and ROR alone take C; Z and N are set.
func TestShifts(t *testing.T) {
	for _, x := range []turned{
		{"ASL", "A", "E 34 12", 0, 1, 2, 0},
		{"ASL", "A", "E 34 12", mos.C, 1, 2, 0},
		{"ASL", "A", "E 34 12", 0, 0x40, 0x80, mos.N},
		{"ASL", "A", "E 34 12", 0, 0x80, 0, mos.C | mos.Z},
		{"ASL", "A", "E 34 12", mos.C, 0xC1, 0x82, mos.C | mos.N},
		{"ASL", "A", "E 34 12", 0, 0, 0, mos.Z},
		{"ROL", "2A", "2E 34 12", 0, 1, 2, 0},
		{"ROL", "2A", "2E 34 12", mos.C, 1, 3, 0},
		{"ROL", "2A", "2E 34 12", 0, 0x80, 0, mos.C | mos.Z},
		{"ROL", "2A", "2E 34 12", mos.C, 0x80, 1, mos.C},
		{"ROL", "2A", "2E 34 12", mos.C, 0x40, 0x81, mos.N},
		{"ROL", "2A", "2E 34 12", 0, 0, 0, mos.Z},
		{"LSR", "4A", "4E 34 12", 0, 2, 1, 0},
		{"LSR", "4A", "4E 34 12", mos.C, 2, 1, 0},
		{"LSR", "4A", "4E 34 12", mos.C, 1, 0, mos.C | mos.Z},
		{"LSR", "4A", "4E 34 12", mos.C, 0xFF, 0x7F, mos.C},
		{"LSR", "4A", "4E 34 12", mos.C, 0, 0, mos.Z},
		{"ROR", "6A", "6E 34 12", 0, 2, 1, 0},
		{"ROR", "6A", "6E 34 12", mos.C, 2, 0x81, mos.N},
		{"ROR", "6A", "6E 34 12", 0, 1, 0, mos.C | mos.Z},
		{"ROR", "6A", "6E 34 12", mos.C, 1, 0x80, mos.C | mos.N},
		{"ROR", "6A", "6E 34 12", mos.C, 0, 0x80, mos.N},
	} {
		outcomes(t, []outcome{
			{x.name, x.inA, mos.CPU{A: x.v, X: 1, Y: 2, S: 3, P: x.carry}, 9, mos.CPU{A: x.r, X: 1, Y: 2, S: 3, P: x.p}, 9, czn, mos.C},
			{x.name, x.memory, mos.CPU{A: 9, X: 1, Y: 2, S: 3, P: x.carry}, x.v, mos.CPU{A: 9, X: 1, Y: 2, S: 3, P: x.p}, x.r, czn, mos.C},
		})
	}
}

// N2: DEC and INC of M, DEX, DEY, INX and INY of the register: one less, one more, counted round; Z and N are set, C and V stay.
func TestCounting(t *testing.T) {
	for _, x := range []struct {
		less         bool
		v, r, p      byte
		dec, inX, in string
	}{
		{true, 5, 4, 0, "CE 34 12", "CA", "88"},
		{true, 1, 0, mos.Z, "CE 34 12", "CA", "88"},
		{true, 0, 0xFF, mos.N, "CE 34 12", "CA", "88"},
		{true, 0x80, 0x7F, 0, "CE 34 12", "CA", "88"},
		{false, 5, 6, 0, "EE 34 12", "E8", "C8"},
		{false, 0xFF, 0, mos.Z, "EE 34 12", "E8", "C8"},
		{false, 0x7F, 0x80, mos.N, "EE 34 12", "E8", "C8"},
		{false, 0, 1, 0, "EE 34 12", "E8", "C8"},
	} {
		outcomes(t, []outcome{
			{"DEC, INC", x.dec, mos.CPU{A: 9, X: 10, Y: 11, S: 3}, x.v, mos.CPU{A: 9, X: 10, Y: 11, S: 3, P: x.p}, x.r, zn, 0},
			{"DEX, INX", x.inX, mos.CPU{A: 9, X: x.v, Y: 11, S: 3}, 8, mos.CPU{A: 9, X: x.r, Y: 11, S: 3, P: x.p}, 8, zn, 0},
			{"DEY, INY", x.in, mos.CPU{A: 9, X: 10, Y: x.v, S: 3}, 8, mos.CPU{A: 9, X: 10, Y: x.r, S: 3, P: x.p}, 8, zn, 0},
		})
	}
}

// N2: what is changed is read and then written, also where it stays the same, and where the address is crossed.
func TestReadThenWritten(t *testing.T) {
	steps(t, []one{
		{"200: 6 40", mos.CPU{PC: 0x200}, mos.CPU{P: mos.Z, PC: 0x202}, 5, "200 201 40 40=0"},
		{"200: 66 40 40: 3", mos.CPU{P: mos.C, PC: 0x200}, mos.CPU{P: czn &^ mos.Z, PC: 0x202}, 5, "200 201 40 40=81"},
		{"200: 46 40 40: 3", mos.CPU{PC: 0x200}, mos.CPU{P: mos.C, PC: 0x202}, 5, "200 201 40 40=1"},
		{"200: 3E 1 3 400: 80", mos.CPU{X: 0xFF, P: mos.C, PC: 0x200}, mos.CPU{X: 0xFF, P: mos.C, PC: 0x203}, 7, "200 201 202 400 400=1"},
		{"200: DE FF FF", mos.CPU{X: 5, PC: 0x200}, mos.CPU{X: 5, P: mos.N, PC: 0x203}, 7, "200 201 202 4 4=FF"},
		// The instruction's own bytes may be what is changed.
		{"200: EE 0 2", mos.CPU{PC: 0x200}, mos.CPU{P: mos.N, PC: 0x203}, 6, "200 201 202 200 200=EF"},
	})
}
