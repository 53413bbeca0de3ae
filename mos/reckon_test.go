package mos_test

import (
	"testing"

	"picklock/mos"
)

// Flags in short: those that results have, those of sums, those of comparisons and shifts, and those of BIT.
const (
	zn   = mos.Z | mos.N
	cvzn = mos.C | mos.V | zn
	czn  = mos.C | zn
	vzn  = mos.V | zn
	all  = cvzn | mos.I | mos.D
)

// outcome is what an instruction makes of registers, flags and the byte at 1234.
type outcome struct {
	name   string
	code   string
	before mos.CPU
	m      byte
	after  mos.CPU
	then   byte
	// sets are the flags that it sets or clears, asks those of them that it goes by, and which P has therefore ahead of it.
	sets, asks byte
}

// check fails if it isn't so, whatever the flags are ahead of it: those that it sets are as after has them, the other ones stay.
func (o outcome) check(t *testing.T) {
	t.Helper()
	for _, stale := range []byte{0, o.sets &^ o.asks} {
		for _, others := range []byte{0, all &^ o.sets} {
			before, want := o.before, result{o.after, o.then}
			before.P |= stale | others
			want.c.P |= others
			if got := stepped(o.code, before, o.m); got != want {
				t.Errorf("%s, %+v, %X: %+v, want %+v", o.name, before, o.m, got, want)
			}
		}
	}
}

// outcomes checks each.
func outcomes(t *testing.T, cases []outcome) {
	t.Helper()
	for _, o := range cases {
		o.check(t)
	}
}

// N2: the register is M; Z and N are set by it, and nothing else.
func TestLoads(t *testing.T) {
	outcomes(t, []outcome{
		{"LDA", "AD 34 12", mos.CPU{A: 9, X: 1, Y: 2, S: 3}, 5, mos.CPU{A: 5, X: 1, Y: 2, S: 3}, 5, zn, 0},
		{"LDA", "AD 34 12", mos.CPU{A: 9, X: 1, Y: 2, S: 3}, 0, mos.CPU{A: 0, X: 1, Y: 2, S: 3, P: mos.Z}, 0, zn, 0},
		{"LDA", "AD 34 12", mos.CPU{A: 9, X: 1, Y: 2, S: 3}, 0x80, mos.CPU{A: 0x80, X: 1, Y: 2, S: 3, P: mos.N}, 0x80, zn, 0},
		{"LDA", "AD 34 12", mos.CPU{}, 0x7F, mos.CPU{A: 0x7F}, 0x7F, zn, 0},
		{"LDX", "AE 34 12", mos.CPU{A: 9, X: 1, Y: 2, S: 3}, 5, mos.CPU{A: 9, X: 5, Y: 2, S: 3}, 5, zn, 0},
		{"LDX", "AE 34 12", mos.CPU{A: 9, X: 1, Y: 2, S: 3}, 0, mos.CPU{A: 9, X: 0, Y: 2, S: 3, P: mos.Z}, 0, zn, 0},
		{"LDX", "AE 34 12", mos.CPU{A: 9, X: 1, Y: 2, S: 3}, 0xFF, mos.CPU{A: 9, X: 0xFF, Y: 2, S: 3, P: mos.N}, 0xFF, zn, 0},
		{"LDY", "AC 34 12", mos.CPU{A: 9, X: 1, Y: 2, S: 3}, 5, mos.CPU{A: 9, X: 1, Y: 5, S: 3}, 5, zn, 0},
		{"LDY", "AC 34 12", mos.CPU{A: 9, X: 1, Y: 2, S: 3}, 0, mos.CPU{A: 9, X: 1, Y: 0, S: 3, P: mos.Z}, 0, zn, 0},
		{"LDY", "AC 34 12", mos.CPU{A: 9, X: 1, Y: 2, S: 3}, 0x81, mos.CPU{A: 9, X: 1, Y: 0x81, S: 3, P: mos.N}, 0x81, zn, 0},
	})
}

// N2: the register is written to the address, also where it is 0 or above 127: no flag hangs on it.
func TestStores(t *testing.T) {
	for _, v := range []byte{0, 1, 0x80, 0xFF} {
		outcomes(t, []outcome{
			{"STA", "8D 34 12", mos.CPU{A: v, X: 1, Y: 2, S: 3}, 9, mos.CPU{A: v, X: 1, Y: 2, S: 3}, v, 0, 0},
			{"STX", "8E 34 12", mos.CPU{A: 9, X: v, Y: 2, S: 3}, 9, mos.CPU{A: 9, X: v, Y: 2, S: 3}, v, 0, 0},
			{"STY", "8C 34 12", mos.CPU{A: 9, X: 1, Y: v, S: 3}, 9, mos.CPU{A: 9, X: 1, Y: v, S: 3}, v, 0, 0},
		})
	}
}

// N2: the second register is the first one, with Z and N set by it; TXS sets no flag.
func TestTransfers(t *testing.T) {
	for v, p := range map[byte]byte{0: mos.Z, 1: 0, 0x7F: 0, 0x80: mos.N, 0xFF: mos.N} {
		outcomes(t, []outcome{
			{"TAX", "AA", mos.CPU{A: v, X: 11, Y: 12, S: 13}, 9, mos.CPU{A: v, X: v, Y: 12, S: 13, P: p}, 9, zn, 0},
			{"TAY", "A8", mos.CPU{A: v, X: 11, Y: 12, S: 13}, 9, mos.CPU{A: v, X: 11, Y: v, S: 13, P: p}, 9, zn, 0},
			{"TXA", "8A", mos.CPU{A: 10, X: v, Y: 12, S: 13}, 9, mos.CPU{A: v, X: v, Y: 12, S: 13, P: p}, 9, zn, 0},
			{"TYA", "98", mos.CPU{A: 10, X: 11, Y: v, S: 13}, 9, mos.CPU{A: v, X: 11, Y: v, S: 13, P: p}, 9, zn, 0},
			{"TSX", "BA", mos.CPU{A: 10, X: 11, Y: 12, S: v}, 9, mos.CPU{A: 10, X: v, Y: 12, S: v, P: p}, 9, zn, 0},
			{"TXS", "9A", mos.CPU{A: 10, X: v, Y: 12, S: 13}, 9, mos.CPU{A: 10, X: v, Y: 12, S: v}, 9, 0, 0},
		})
	}
}

// N2: A is A or M, and M, xor M; Z and N are set by it.
func TestLogic(t *testing.T) {
	outcomes(t, []outcome{
		{"ORA", "D 34 12", mos.CPU{A: 0x0C, X: 1, Y: 2, S: 3}, 0x0A, mos.CPU{A: 0x0E, X: 1, Y: 2, S: 3}, 0x0A, zn, 0},
		{"ORA", "D 34 12", mos.CPU{A: 0}, 0, mos.CPU{A: 0, P: mos.Z}, 0, zn, 0},
		{"ORA", "D 34 12", mos.CPU{A: 1}, 0x80, mos.CPU{A: 0x81, P: mos.N}, 0x80, zn, 0},
		{"AND", "2D 34 12", mos.CPU{A: 0x0C, X: 1, Y: 2, S: 3}, 0x0A, mos.CPU{A: 8, X: 1, Y: 2, S: 3}, 0x0A, zn, 0},
		{"AND", "2D 34 12", mos.CPU{A: 0xF0}, 0x0F, mos.CPU{A: 0, P: mos.Z}, 0x0F, zn, 0},
		{"AND", "2D 34 12", mos.CPU{A: 0xF0}, 0x8F, mos.CPU{A: 0x80, P: mos.N}, 0x8F, zn, 0},
		{"EOR", "4D 34 12", mos.CPU{A: 0x0C, X: 1, Y: 2, S: 3}, 0x0A, mos.CPU{A: 6, X: 1, Y: 2, S: 3}, 0x0A, zn, 0},
		{"EOR", "4D 34 12", mos.CPU{A: 0xA5}, 0xA5, mos.CPU{A: 0, P: mos.Z}, 0xA5, zn, 0},
		{"EOR", "4D 34 12", mos.CPU{A: 0xF0}, 0x0F, mos.CPU{A: 0xFF, P: mos.N}, 0x0F, zn, 0},
	})
}

// N2: ADC is the sum of A, M and C; C and V are its c and o.
func TestADC(t *testing.T) {
	const code = "6D 34 12"
	outcomes(t, []outcome{
		{"ADC", code, mos.CPU{A: 2, X: 1, Y: 2, S: 3}, 3, mos.CPU{A: 5, X: 1, Y: 2, S: 3}, 3, cvzn, mos.C},
		{"ADC", code, mos.CPU{A: 2, P: mos.C}, 3, mos.CPU{A: 6}, 3, cvzn, mos.C},
		{"ADC", code, mos.CPU{A: 0x50}, 0x50, mos.CPU{A: 0xA0, P: mos.N | mos.V}, 0x50, cvzn, mos.C},
		{"ADC", code, mos.CPU{A: 0xFF}, 1, mos.CPU{A: 0, P: mos.C | mos.Z}, 1, cvzn, mos.C},
		{"ADC", code, mos.CPU{A: 0xFF, P: mos.C}, 0, mos.CPU{A: 0, P: mos.C | mos.Z}, 0, cvzn, mos.C},
		{"ADC", code, mos.CPU{A: 0x80}, 0x80, mos.CPU{A: 0, P: mos.C | mos.V | mos.Z}, 0x80, cvzn, mos.C},
		{"ADC", code, mos.CPU{A: 0x80}, 0xFF, mos.CPU{A: 0x7F, P: mos.C | mos.V}, 0xFF, cvzn, mos.C},
		{"ADC", code, mos.CPU{A: 0x80, P: mos.C}, 0xFF, mos.CPU{A: 0x80, P: mos.C | mos.N}, 0xFF, cvzn, mos.C},
		// D, which is set here at times, does not matter: these would be 10 and 0 of tens and ones.
		{"ADC", code, mos.CPU{A: 9}, 1, mos.CPU{A: 0x0A}, 1, cvzn, mos.C},
		{"ADC", code, mos.CPU{A: 0x99}, 1, mos.CPU{A: 0x9A, P: mos.N}, 1, cvzn, mos.C},
	})
}

// N2: SBC is A less M, and less 1 where C is not set; C and V are its c and o.
func TestSBC(t *testing.T) {
	const code = "ED 34 12"
	outcomes(t, []outcome{
		{"SBC", code, mos.CPU{A: 5, X: 1, Y: 2, S: 3, P: mos.C}, 3, mos.CPU{A: 2, X: 1, Y: 2, S: 3, P: mos.C}, 3, cvzn, mos.C},
		{"SBC", code, mos.CPU{A: 5}, 3, mos.CPU{A: 1, P: mos.C}, 3, cvzn, mos.C},
		{"SBC", code, mos.CPU{A: 5, P: mos.C}, 5, mos.CPU{A: 0, P: mos.C | mos.Z}, 5, cvzn, mos.C},
		{"SBC", code, mos.CPU{A: 5}, 5, mos.CPU{A: 0xFF, P: mos.N}, 5, cvzn, mos.C},
		{"SBC", code, mos.CPU{A: 0x50, P: mos.C}, 0xB0, mos.CPU{A: 0xA0, P: mos.N | mos.V}, 0xB0, cvzn, mos.C},
		{"SBC", code, mos.CPU{A: 0x80, P: mos.C}, 1, mos.CPU{A: 0x7F, P: mos.C | mos.V}, 1, cvzn, mos.C},
		{"SBC", code, mos.CPU{A: 0x80}, 0, mos.CPU{A: 0x7F, P: mos.C | mos.V}, 0, cvzn, mos.C},
		{"SBC", code, mos.CPU{A: 0}, 0, mos.CPU{A: 0xFF, P: mos.N}, 0, cvzn, mos.C},
		// D, which is set here at times, does not matter: this would be 9 of tens and ones.
		{"SBC", code, mos.CPU{A: 0x10, P: mos.C}, 1, mos.CPU{A: 0x0F, P: mos.C}, 1, cvzn, mos.C},
	})
}

// N2: CMP, CPX, CPY: C, Z and N tell of the register below, at and above M; the register and V stay.
func TestComparisons(t *testing.T) {
	for _, x := range []struct {
		register, m, p byte
	}{{4, 5, mos.N}, {5, 5, mos.C | mos.Z}, {6, 5, mos.C}, {0, 0, mos.C | mos.Z}, {0, 1, mos.N}, {0, 0xFF, 0}, {0xFF, 0, mos.C | mos.N}, {0x80, 0x7F, mos.C}, {0x7F, 0x80, mos.N}, {0x80, 0, mos.C | mos.N}} {
		outcomes(t, []outcome{
			{"CMP", "CD 34 12", mos.CPU{A: x.register, X: 77, Y: 78, S: 3}, x.m, mos.CPU{A: x.register, X: 77, Y: 78, S: 3, P: x.p}, x.m, czn, 0},
			{"CPX", "EC 34 12", mos.CPU{A: 77, X: x.register, Y: 78, S: 3}, x.m, mos.CPU{A: 77, X: x.register, Y: 78, S: 3, P: x.p}, x.m, czn, 0},
			{"CPY", "CC 34 12", mos.CPU{A: 77, X: 78, Y: x.register, S: 3}, x.m, mos.CPU{A: 77, X: 78, Y: x.register, S: 3, P: x.p}, x.m, czn, 0},
		})
	}
}

// N2: BIT: Z is told of A and M, N and V of M alone; A and C stay.
func TestBIT(t *testing.T) {
	for _, x := range []struct {
		a, m, p byte
	}{{1, 1, 0}, {1, 2, mos.Z}, {0, 0, mos.Z}, {0xFF, 0, mos.Z}, {0, 0xC0, mos.Z | mos.N | mos.V}, {0x80, 0x80, mos.N}, {0x40, 0x40, mos.V}, {0x3F, 0x80, mos.Z | mos.N}, {0x3F, 0x40, mos.Z | mos.V}, {0xC0, 0x3F, mos.Z}, {0xFF, 0xFF, mos.N | mos.V}} {
		outcome{"BIT", "2C 34 12", mos.CPU{A: x.a, X: 1, Y: 2, S: 3}, x.m, mos.CPU{A: x.a, X: 1, Y: 2, S: 3, P: x.p}, x.m, vzn, 0}.check(t)
	}
	steps(t, []one{{"200: 24 40 40: C0", mos.CPU{A: 0xF, PC: 0x200}, mos.CPU{A: 0xF, P: vzn, PC: 0x202}, 3, "200 201 40"}})
}

// N2: the flags are cleared and set, each alone; NOP does nothing.
func TestFlagInstructions(t *testing.T) {
	outcomes(t, []outcome{
		{"CLC", "18", mos.CPU{A: 1, X: 2, Y: 3, S: 4}, 9, mos.CPU{A: 1, X: 2, Y: 3, S: 4}, 9, mos.C, 0},
		{"SEC", "38", mos.CPU{A: 1, X: 2, Y: 3, S: 4}, 9, mos.CPU{A: 1, X: 2, Y: 3, S: 4, P: mos.C}, 9, mos.C, 0},
		{"CLI", "58", mos.CPU{A: 1, X: 2, Y: 3, S: 4}, 9, mos.CPU{A: 1, X: 2, Y: 3, S: 4}, 9, mos.I, 0},
		{"SEI", "78", mos.CPU{A: 1, X: 2, Y: 3, S: 4}, 9, mos.CPU{A: 1, X: 2, Y: 3, S: 4, P: mos.I}, 9, mos.I, 0},
		{"CLV", "B8", mos.CPU{A: 1, X: 2, Y: 3, S: 4}, 9, mos.CPU{A: 1, X: 2, Y: 3, S: 4}, 9, mos.V, 0},
		{"CLD", "D8", mos.CPU{A: 1, X: 2, Y: 3, S: 4}, 9, mos.CPU{A: 1, X: 2, Y: 3, S: 4}, 9, mos.D, 0},
		{"SED", "F8", mos.CPU{A: 1, X: 2, Y: 3, S: 4}, 9, mos.CPU{A: 1, X: 2, Y: 3, S: 4, P: mos.D}, 9, mos.D, 0},
		{"NOP", "EA", mos.CPU{A: 1, X: 2, Y: 3, S: 4}, 9, mos.CPU{A: 1, X: 2, Y: 3, S: 4}, 9, 0, 0},
	})
}

// sums tells ADC of a and v by the chapter of what the 6502 reckons (13): the register, and the flags.
func sums(a, v int, carry bool) (r, p byte) {
	n := 0
	if carry {
		n = 1
	}
	sign := func(v int) int { return v - v/128*256 }
	if s := sign(a) + sign(v) + n; s < -128 || s > 127 {
		p |= mos.V
	}
	if a+v+n > 255 {
		p |= mos.C
	}
	return byte((a + v + n) % 256), p
}

// N2: ADC and SBC of each A and M, with C and without, with D and without: SBC is the sum of A and 255 less M.
func TestSums(t *testing.T) {
	f := &mos.Flat{}
	for n := range 65536 {
		a, v := n/256, n%256
		for _, p := range []byte{0, mos.C, mos.D, mos.C | mos.D} {
			for opcode, by := range map[byte]int{0x69: v, 0xE9: 255 - v} {
				f.M[0], f.M[1] = opcode, byte(v)
				c := mos.CPU{A: byte(a), P: p}
				c.Step(f)
				r, flags := sums(a, by, p&mos.C != 0)
				flags |= p & mos.D
				if r == 0 {
					flags |= mos.Z
				}
				if r >= 128 {
					flags |= mos.N
				}
				if c.A != r || c.P != flags {
					t.Fatalf("%X of %X and %X, P %X: %X, P %X, want %X, P %X", opcode, a, v, p, c.A, c.P, r, flags)
				}
			}
		}
	}
}
