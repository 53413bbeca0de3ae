package mos_test

import (
	"strings"
	"testing"

	"picklock/mos"
)

// N2: what is read and written of each mode, each once, in order, and nothing else: where M is read, where it is written, and where it is read and then written.
func TestAccesses(t *testing.T) {
	from := mos.CPU{A: 5, X: 2, Y: 3, PC: 0x200}
	a7 := mos.CPU{A: 7, X: 2, Y: 3, PC: 0x202}
	long, none := a7, from
	long.PC, none.PC = 0x203, 0x202
	nothing := none
	nothing.PC = 0x203
	steps(t, []one{
		{"200: A9 7", from, a7, 2, "200 201"},
		{"200: A5 40 40: 7", from, a7, 3, "200 201 40"},
		{"200: B5 40 42: 7", from, a7, 4, "200 201 42"},
		{"200: AD 40 3 340: 7", from, long, 4, "200 201 202 340"},
		{"200: BD 40 3 342: 7", from, long, 4, "200 201 202 342"},
		{"200: B9 40 3 343: 7", from, long, 4, "200 201 202 343"},
		{"200: A1 40 42: 34 12 1234: 7", from, a7, 6, "200 201 42 43 1234"},
		{"200: B1 40 40: 34 12 1237: 7", from, a7, 5, "200 201 40 41 1237"},
		{"200: 85 40", from, none, 3, "200 201 40=5"},
		{"200: 95 40", from, none, 4, "200 201 42=5"},
		{"200: 8D 40 3", from, nothing, 4, "200 201 202 340=5"},
		{"200: 9D 40 3", from, nothing, 5, "200 201 202 342=5"},
		{"200: 99 40 3", from, nothing, 5, "200 201 202 343=5"},
		{"200: 81 40 42: 34 12", from, none, 6, "200 201 42 43 1234=5"},
		{"200: 91 40 40: 34 12", from, none, 6, "200 201 40 41 1237=5"},
		{"200: 86 40", from, none, 3, "200 201 40=2"},
		{"200: 96 40", from, none, 4, "200 201 43=2"},
		{"200: 8E 40 3", from, nothing, 4, "200 201 202 340=2"},
		{"200: 84 40", from, none, 3, "200 201 40=3"},
		{"200: 94 40", from, none, 4, "200 201 42=3"},
		{"200: 8C 40 3", from, nothing, 4, "200 201 202 340=3"},
		{"200: E6 40 40: 7", from, none, 5, "200 201 40 40=8"},
		{"200: F6 40 42: 7", from, none, 6, "200 201 42 42=8"},
		{"200: EE 40 3 340: 7", from, nothing, 6, "200 201 202 340 340=8"},
		{"200: FE 40 3 342: 7", from, nothing, 7, "200 201 202 342 342=8"},
		{"200: C6 40 40: 7", from, none, 5, "200 201 40 40=6"},
		{"200: 6 40 40: 7", from, none, 5, "200 201 40 40=E"},
		{"200: 26 40 40: 7", from, none, 5, "200 201 40 40=E"},
	})
}

// N2: what is implied, and A, reads nothing behind the opcode; also what neither pushes nor pulls.
func TestImplied(t *testing.T) {
	for opcode, e := range entries(t) {
		if e.mode != "accumulator" && (e.mode != "implied" || strings.Contains("BRK RTI RTS PHP PLP PHA PLA", e.name)) {
			continue
		}
		bus := &noting{m: map[uint16]byte{0x200: opcode}}
		c := mos.CPU{PC: 0x200}
		isSame(t, e.name, c.Step(bus), 2)
		isSame(t, e.name, c.PC, 0x201)
		isSame(t, e.name, told(bus.seen), "200")
	}
}

// N2: zero page with X, or Y, is counted round within the first page; no address is crossed by that.
func TestZeroPage(t *testing.T) {
	steps(t, []one{
		{"200: B5 40 3F: 7 13F: 9", mos.CPU{X: 0xFF, PC: 0x200}, mos.CPU{A: 7, X: 0xFF, PC: 0x202}, 4, "200 201 3F"},
		{"200: B5 FF FF: 7", mos.CPU{PC: 0x200}, mos.CPU{A: 7, PC: 0x202}, 4, "200 201 FF"},
		{"200: B5 FF 0: 7 100: 9", mos.CPU{X: 1, PC: 0x200}, mos.CPU{A: 7, X: 1, PC: 0x202}, 4, "200 201 0"},
		{"200: B4 FF FE: 7 1FE: 9", mos.CPU{X: 0xFF, PC: 0x200}, mos.CPU{Y: 7, X: 0xFF, PC: 0x202}, 4, "200 201 FE"},
		{"200: B6 FF 0: 7 100: 9", mos.CPU{Y: 1, X: 5, PC: 0x200}, mos.CPU{Y: 1, X: 7, PC: 0x202}, 4, "200 201 0"},
		{"200: 96 FF", mos.CPU{Y: 3, X: 5, PC: 0x200}, mos.CPU{Y: 3, X: 5, PC: 0x202}, 4, "200 201 2=5"},
		{"200: 94 FF", mos.CPU{Y: 3, X: 5, PC: 0x200}, mos.CPU{Y: 3, X: 5, PC: 0x202}, 4, "200 201 4=3"},
		{"200: 95 80", mos.CPU{A: 9, X: 0x80, PC: 0x200}, mos.CPU{A: 9, X: 0x80, PC: 0x202}, 4, "200 201 0=9"},
		{"200: D6 80 0: 7", mos.CPU{X: 0x80, PC: 0x200}, mos.CPU{X: 0x80, PC: 0x202}, 6, "200 201 0 0=6"},
	})
}

// N2: absolute with X, or Y, is counted round at 10000, which crosses it.
func TestAbsoluteRound(t *testing.T) {
	steps(t, []one{
		{"200: BD FF FF 0: 7", mos.CPU{X: 1, PC: 0x200}, mos.CPU{A: 7, X: 1, PC: 0x203}, 5, "200 201 202 0"},
		{"200: B9 FF FF FE: 7", mos.CPU{Y: 0xFF, PC: 0x200}, mos.CPU{A: 7, Y: 0xFF, PC: 0x203}, 5, "200 201 202 FE"},
		{"200: B9 0 FF FFFF: 7", mos.CPU{Y: 0xFF, PC: 0x200}, mos.CPU{A: 7, Y: 0xFF, PC: 0x203}, 4, "200 201 202 FFFF"},
		{"200: 9D 2 FF", mos.CPU{A: 9, X: 0xFF, PC: 0x200}, mos.CPU{A: 9, X: 0xFF, PC: 0x203}, 5, "200 201 202 1=9"},
		{"200: B1 40 40: FF FF 1: 7", mos.CPU{Y: 2, PC: 0x200}, mos.CPU{A: 7, Y: 2, PC: 0x202}, 6, "200 201 40 41 1"},
	})
}

// N2: the word of what is indirect of X begins at the byte and X, modulo 100, and its second byte lies in the first page, too.
func TestIndirectOfX(t *testing.T) {
	steps(t, []one{
		{"200: A1 F0 10: 34 12 1234: 7", mos.CPU{X: 0x20, PC: 0x200}, mos.CPU{A: 7, X: 0x20, PC: 0x202}, 6, "200 201 10 11 1234"},
		{"200: A1 FD 0: 12 FF: 34 1234: 7 100: 99", mos.CPU{X: 2, PC: 0x200}, mos.CPU{A: 7, X: 2, PC: 0x202}, 6, "200 201 FF 0 1234"},
		{"200: A1 FF FF: 34 0: 12 1234: 7", mos.CPU{PC: 0x200}, mos.CPU{A: 7, PC: 0x202}, 6, "200 201 FF 0 1234"},
		{"200: 81 FF FF: 34 0: 12", mos.CPU{A: 9, PC: 0x200}, mos.CPU{A: 9, PC: 0x202}, 6, "200 201 FF 0 1234=9"},
		// Nothing is added to the word, so that it is never crossed.
		{"200: A1 40 3F: FF 12 12FF: 7", mos.CPU{X: 0xFF, PC: 0x200}, mos.CPU{A: 7, X: 0xFF, PC: 0x202}, 6, "200 201 3F 40 12FF"},
	})
}

// N2: the word of what is indirect, Y begins at the byte, its second byte lies in the first page, too, and Y is added to it.
func TestIndirectY(t *testing.T) {
	steps(t, []one{
		{"200: B1 FF FF: 34 0: 12 1236: 7 100: 99", mos.CPU{Y: 2, PC: 0x200}, mos.CPU{A: 7, Y: 2, PC: 0x202}, 5, "200 201 FF 0 1236"},
		{"200: B1 10 10: 34 12 1300: 7", mos.CPU{Y: 0xCC, PC: 0x200}, mos.CPU{A: 7, Y: 0xCC, PC: 0x202}, 6, "200 201 10 11 1300"},
		{"200: B1 10 10: 34 12 12FF: 7", mos.CPU{Y: 0xCB, PC: 0x200}, mos.CPU{A: 7, Y: 0xCB, PC: 0x202}, 5, "200 201 10 11 12FF"},
		{"200: 91 FF FF: 34 0: 12", mos.CPU{A: 9, Y: 0xFF, PC: 0x200}, mos.CPU{A: 9, Y: 0xFF, PC: 0x202}, 6, "200 201 FF 0 1333=9"},
	})
}

// N2: JMP goes to the address, or to the word there, whose second byte is at the next address of the same page.
func TestJMP(t *testing.T) {
	steps(t, []one{
		{"200: 4C 34 12", mos.CPU{PC: 0x200}, mos.CPU{PC: 0x1234}, 3, "200 201 202"},
		{"200: 6C 10 3 310: 34 12", mos.CPU{PC: 0x200}, mos.CPU{PC: 0x1234}, 5, "200 201 202 310 311"},
		{"200: 6C FE 3 3FE: 34 12", mos.CPU{PC: 0x200}, mos.CPU{PC: 0x1234}, 5, "200 201 202 3FE 3FF"},
		{"200: 6C FF 3 3FF: 34 300: 12 400: 99", mos.CPU{PC: 0x200}, mos.CPU{PC: 0x1234}, 5, "200 201 202 3FF 300"},
		{"200: 6C FF FF FFFF: 34 FF00: 12 0: 99", mos.CPU{PC: 0x200}, mos.CPU{PC: 0x1234}, 5, "200 201 202 FFFF FF00"},
		{"200: 6C FF 0 FF: 34 0: 12 100: 99", mos.CPU{PC: 0x200}, mos.CPU{PC: 0x1234}, 5, "200 201 202 FF 0"},
	})
}

// N2: where the highest eight bits of an address change, those instructions take one cycle more that the chapter names, and no other ones.
func TestCrossed(t *testing.T) {
	for opcode, e := range entries(t) {
		if e.mode != "absolute, X" && e.mode != "absolute, Y" && e.mode != "indirect, Y" {
			continue
		}
		more := 0
		if strings.Contains("ORA AND EOR ADC LDA CMP SBC LDX LDY", e.name) {
			more = 1
		}
		for _, by := range []struct {
			low, index byte
			crossed    int
		}{{0, 0, 0}, {0, 255, 0}, {255, 0, 0}, {1, 254, 0}, {1, 255, 1}, {255, 1, 1}, {255, 255, 1}, {128, 127, 0}, {128, 128, 1}} {
			bus := memory(t, "201: 40 3 41: 3")
			bus.m[0x200], bus.m[0x40] = opcode, by.low
			if e.mode != "indirect, Y" {
				bus.m[0x201] = by.low
			}
			c := mos.CPU{PC: 0x200, X: by.index, Y: by.index}
			isSame(t, e.name+" "+e.mode, c.Step(bus), e.cycles+more*by.crossed)
			isSame(t, e.name+" "+e.mode+": place", bus.seen[len(bus.seen)-1].a, 0x300+uint16(by.low)+uint16(by.index))
		}
	}
}
