package mos_test

import (
	"testing"

	"picklock/mos"
)

// N1, N2: to push, the byte is written to 100 and S, and S is one less; to pull, S is one more, and the byte at 100 and S is read.
func TestPushAndPull(t *testing.T) {
	steps(t, []one{
		{"200: 48", mos.CPU{A: 5, S: 0xFD, PC: 0x200}, mos.CPU{A: 5, S: 0xFC, PC: 0x201}, 3, "200 1FD=5"},
		{"200: 48", mos.CPU{A: 0, S: 0, P: mos.N, PC: 0x200}, mos.CPU{A: 0, S: 0xFF, P: mos.N, PC: 0x201}, 3, "200 100=0"},
		{"200: 48", mos.CPU{A: 0x80, S: 0xFF, P: mos.Z, PC: 0x200}, mos.CPU{A: 0x80, S: 0xFE, P: mos.Z, PC: 0x201}, 3, "200 1FF=80"},
		{"200: 68 1FE: 7", mos.CPU{S: 0xFD, PC: 0x200}, mos.CPU{A: 7, S: 0xFE, PC: 0x201}, 4, "200 1FE"},
		{"200: 68 100: 80", mos.CPU{S: 0xFF, P: mos.Z, PC: 0x200}, mos.CPU{A: 0x80, S: 0, P: mos.N, PC: 0x201}, 4, "200 100"},
		{"200: 68 101: 0", mos.CPU{A: 5, S: 0, P: mos.N | mos.C, PC: 0x200}, mos.CPU{A: 0, S: 1, P: mos.Z | mos.C, PC: 0x201}, 4, "200 101"},
	})
}

// N1, N2: what PHP pushes has B and U set; P has neither, ahead of it and behind it.
func TestPHP(t *testing.T) {
	for _, p := range []byte{0, mos.C, mos.N | mos.V, all} {
		steps(t, []one{
			{"200: 8", mos.CPU{S: 0xFD, P: p, PC: 0x200}, mos.CPU{S: 0xFC, P: p, PC: 0x201}, 3, "200 1FD=" + hex(int(p)+16+32)},
			{"200: 8", mos.CPU{S: 0, P: p, PC: 0x200}, mos.CPU{S: 0xFF, P: p, PC: 0x201}, 3, "200 100=" + hex(int(p)+16+32)},
		})
	}
}

// N1, N2: PLP pulls P, each flag of it, without B and U.
func TestPLP(t *testing.T) {
	for v := range 256 {
		for _, before := range []byte{0, all} {
			bus := &noting{m: map[uint16]byte{0x200: 0x28, 0x1FE: byte(v), 0x100: byte(v)}}
			c := mos.CPU{A: 1, X: 2, Y: 3, S: 0xFD, P: before, PC: 0x200}
			isSame(t, "cycles", c.Step(bus), 4)
			isSame(t, "CPU", c, mos.CPU{A: 1, X: 2, Y: 3, S: 0xFE, P: byte(v) &^ (16 + 32), PC: 0x201})
			isSame(t, "seen", told(bus.seen), "200 1FE")
		}
	}
	steps(t, []one{{"200: 28 100: FF", mos.CPU{S: 0xFF, PC: 0x200}, mos.CPU{S: 0, P: all, PC: 0x201}, 4, "200 100"}})
}

// N2: JSR pushes the address behind it less one, its highest byte first; its operand is read ahead of that.
func TestJSR(t *testing.T) {
	steps(t, []one{
		{"200: 20 34 12", mos.CPU{S: 0xFD, P: all, PC: 0x200}, mos.CPU{S: 0xFB, P: all, PC: 0x1234}, 6, "200 201 202 1FD=2 1FC=2"},
		{"8FE: 20 34 12", mos.CPU{S: 0, PC: 0x8FE}, mos.CPU{S: 0xFE, PC: 0x1234}, 6, "8FE 8FF 900 100=9 1FF=0"},
		{"8FD: 20 34 12", mos.CPU{S: 1, PC: 0x8FD}, mos.CPU{S: 0xFF, PC: 0x1234}, 6, "8FD 8FE 8FF 101=8 100=FF"},
		// The operand lies where the address is pushed.
		{"1FB: 20 34 12", mos.CPU{S: 0xFD, PC: 0x1FB}, mos.CPU{S: 0xFB, PC: 0x1234}, 6, "1FB 1FC 1FD 1FD=1 1FC=FD"},
	})
}

// N2: RTS pulls a word, its lowest byte first, and goes on at one more, counted round.
func TestRTS(t *testing.T) {
	steps(t, []one{
		{"200: 60 1FC: 34 12", mos.CPU{S: 0xFB, P: all, PC: 0x200}, mos.CPU{S: 0xFD, P: all, PC: 0x1235}, 6, "200 1FC 1FD"},
		{"200: 60 100: 34 12", mos.CPU{S: 0xFF, PC: 0x200}, mos.CPU{S: 1, PC: 0x1235}, 6, "200 100 101"},
		{"200: 60 1FF: 34 100: 12", mos.CPU{S: 0xFE, PC: 0x200}, mos.CPU{S: 0, PC: 0x1235}, 6, "200 1FF 100"},
		{"200: 60 1FC: FF 12", mos.CPU{S: 0xFB, PC: 0x200}, mos.CPU{S: 0xFD, PC: 0x1300}, 6, "200 1FC 1FD"},
		{"200: 60 1FC: FF FF", mos.CPU{S: 0xFB, PC: 0x200}, mos.CPU{S: 0xFD, PC: 0}, 6, "200 1FC 1FD"},
	})
}

// N2: RTI pulls P, without B and U, then PC, its lowest byte first.
func TestRTI(t *testing.T) {
	steps(t, []one{
		{"200: 40 1FB: FF 34 12", mos.CPU{S: 0xFA, PC: 0x200}, mos.CPU{S: 0xFD, P: all, PC: 0x1234}, 6, "200 1FB 1FC 1FD"},
		{"200: 40 1FB: 30 34 12", mos.CPU{S: 0xFA, P: all, PC: 0x200}, mos.CPU{S: 0xFD, PC: 0x1234}, 6, "200 1FB 1FC 1FD"},
		{"200: 40 1FB: 5 FF FF", mos.CPU{S: 0xFA, PC: 0x200}, mos.CPU{S: 0xFD, P: 5, PC: 0xFFFF}, 6, "200 1FB 1FC 1FD"},
		{"200: 40 1FF: 5 100: 34 12", mos.CPU{S: 0xFE, PC: 0x200}, mos.CPU{S: 1, P: 5, PC: 0x1234}, 6, "200 1FF 100 101"},
		{"200: 40 100: 5 34 12", mos.CPU{S: 0xFF, PC: 0x200}, mos.CPU{S: 2, P: 5, PC: 0x1234}, 6, "200 100 101 102"},
	})
}

// N2: BRK pushes the address behind the opcode and one more, its highest byte first, then P with B and U; I is set, and PC the word at FFFE. The byte behind the opcode is not read.
func TestBRK(t *testing.T) {
	steps(t, []one{
		{"200: 0 FFFE: 34 12", mos.CPU{A: 1, X: 2, Y: 3, S: 0xFD, PC: 0x200}, mos.CPU{A: 1, X: 2, Y: 3, S: 0xFA, P: mos.I, PC: 0x1234}, 7, "200 1FD=2 1FC=2 1FB=30 FFFE FFFF"},
		{"200: 0 FFFE: 34 12", mos.CPU{S: 0xFD, P: all, PC: 0x200}, mos.CPU{S: 0xFA, P: all, PC: 0x1234}, 7, "200 1FD=2 1FC=2 1FB=FF FFFE FFFF"},
		{"200: 0 FFFE: 34 12", mos.CPU{S: 1, P: mos.C, PC: 0x200}, mos.CPU{S: 0xFE, P: mos.C | mos.I, PC: 0x1234}, 7, "200 101=2 100=2 1FF=31 FFFE FFFF"},
		{"2FE: 0 FFFE: 34 12", mos.CPU{S: 0xFF, PC: 0x2FE}, mos.CPU{S: 0xFC, P: mos.I, PC: 0x1234}, 7, "2FE 1FF=3 1FE=0 1FD=30 FFFE FFFF"},
		{"FFFE: 0 12", mos.CPU{S: 0xFF, PC: 0xFFFE}, mos.CPU{S: 0xFC, P: mos.I, PC: 0x1200}, 7, "FFFE 1FF=0 1FE=0 1FD=30 FFFE FFFF"},
		{"FFFF: 0 FFFE: 34", mos.CPU{S: 0xFF, PC: 0xFFFF}, mos.CPU{S: 0xFC, P: mos.I, PC: 0x34}, 7, "FFFF 1FF=0 1FE=1 1FD=30 FFFE FFFF"},
	})
}
