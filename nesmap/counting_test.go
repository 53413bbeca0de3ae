package nesmap_test

import (
	"testing"

	"picklock/ines"
	"picklock/nesmap"
)

// countingMap is one of Mapper 4, of 64 pages and 256 units, each register of which is another number.
func countingMap(t *testing.T) *nesmap.Map {
	t.Helper()
	m := made(t, 4, 32, 32)
	for i, v := range []byte{5, 8, 20, 31, 42, 53, 14, 25} {
		setRegister(m, 0, i, v)
	}
	return m
}

// countingLook is what countingMap tells.
var countingLook = look{pages{14, 25, 62, 63}, units{4, 5, 8, 9, 20, 31, 42, 53}, ines.Vertical, false}

// K2: at first all registers are 0, nothing is allowed, and Mirror is as the cart says.
func TestCountingFirst(t *testing.T) {
	for _, mirror := range mirrors {
		c := cart(4, 4, 2)
		c.Mirror = mirror
		m := mapOf(t, c)
		want := look{pages{0, 0, 6, 7}, units{0, 1, 0, 1, 0, 0, 0, 0}, mirror, false}
		looks(t, m, want)
		for range 300 {
			m.Clock()
			looks(t, m, want)
		}
		// SELECT is 0: the first odd write is one of R0.
		m.Write(0x8001, 7)
		want.units = units{6, 7, 0, 1, 0, 0, 0, 0}
		looks(t, m, want)
	}
}

// K2: each register alone, whichever other bits SELECT has, and all numbers.
func TestCountingRegisters(t *testing.T) {
	for number := range 8 {
		for _, beside := range []int{0, 8, 0x10, 0x20, 0x38} {
			m := countingMap(t)
			for v := range 256 {
				setRegister(m, beside, number, byte(v))
				want := countingLook
				switch number {
				case 0:
					want.units[0], want.units[1] = v-v%2, v-v%2+1
				case 1:
					want.units[2], want.units[3] = v-v%2, v-v%2+1
				case 6, 7:
					want.pages[number-6] = v % 64
				default:
					want.units[number+2] = v
				}
				looks(t, m, want)
			}
		}
	}
}

// K2: SELECT stays, until another one is written; a register keeps its number, until it is written again.
func TestCountingSelect(t *testing.T) {
	m := countingMap(t)
	m.Write(0x8000, 3)
	want := countingLook
	for _, v := range []byte{1, 99, 7, 200} {
		m.Write(0x8001, v)
		want.units[5] = int(v)
		looks(t, m, want)
	}
	m.Write(0x8000, 4)
	looks(t, m, want)
	m.Write(0x8000, 7)
	looks(t, m, want)
	m.Write(0x8001, 3)
	want.pages[1] = 3
	looks(t, m, want)
}

// K2: SELECT and the registers by each even and each odd address of 8000 to 9FFF.
func TestCountingSelectAddresses(t *testing.T) {
	for a := 0x8000; a < 0xA000; a += 2 {
		m := countingMap(t)
		m.Write(uint16(a), 2)
		m.Write(uint16(0x9FFF-(a-0x8000)), 77)
		if got := m.CHR(0x1000); got != 77*unitBytes {
			t.Fatalf("%X: place %X", a, got)
		}
	}
}

// K2: bits 6 and 7 of SELECT: pages and units that change places, all four.
func TestCountingTurned(t *testing.T) {
	m := countingMap(t)
	turnedPages := pages{62, 25, 14, 63}
	turnedUnits := units{20, 31, 42, 53, 4, 5, 8, 9}
	for _, x := range []struct {
		selected byte
		want     look
	}{
		{0, countingLook},
		{0x40, look{turnedPages, countingLook.units, ines.Vertical, false}},
		{0x80, look{countingLook.pages, turnedUnits, ines.Vertical, false}},
		{0xC0, look{turnedPages, turnedUnits, ines.Vertical, false}},
		{0, countingLook},
	} {
		for beside := range 0x40 {
			m.Write(0x8000, x.selected|byte(beside))
			looks(t, m, x.want)
		}
	}
}

// K2: a register that is set while places are changed is the same register.
func TestCountingTurnedSet(t *testing.T) {
	m := countingMap(t)
	setRegister(m, 0xC0, 6, 33)
	setRegister(m, 0xC0, 7, 34)
	setRegister(m, 0xC0, 0, 101)
	setRegister(m, 0xC0, 5, 202)
	hasPages(t, m, pages{62, 34, 33, 63})
	hasUnits(t, m, units{20, 31, 42, 202, 100, 101, 8, 9})
	m.Write(0x8000, 0)
	hasPages(t, m, pages{33, 34, 62, 63})
	hasUnits(t, m, units{100, 101, 8, 9, 20, 31, 42, 202})
}

// K2: R6 and R7, counted round by each size, and the last two pages.
func TestCountingPages(t *testing.T) {
	for _, prg := range numbers {
		m := made(t, 4, prg, 2)
		n := 2 * prg
		for v := range 256 {
			setRegister(m, 0, 6, byte(v))
			setRegister(m, 0, 7, byte(255-v))
			hasPages(t, m, pages{v % n, (255 - v) % n, n - 2, n - 1})
			m.Write(0x8000, 0x40)
			hasPages(t, m, pages{n - 2, (255 - v) % n, v % n, n - 1})
		}
	}
}

// K2: R0 to R5, counted round by each size.
func TestCountingUnits(t *testing.T) {
	for _, chr := range numbers {
		m := made(t, 4, 2, chr)
		n := 8 * chr
		for v := range 256 {
			for i := range 6 {
				setRegister(m, 0, i, byte(v+37*i))
			}
			even := func(i int) int { return (v + 37*i) % 256 / 2 * 2 }
			all := func(i int) int { return (v + 37*i) % 256 % n }
			hasUnits(t, m, units{even(0) % n, (even(0) + 1) % n, even(1) % n, (even(1) + 1) % n, all(2), all(3), all(4), all(5)})
		}
	}
}

// K2: Mirror by v's lowest bit, at an even address of A000 to BFFF; the other bits do not count.
func TestCountingMirror(t *testing.T) {
	m := countingMap(t)
	want := countingLook
	for _, a := range []uint16{0xA000, 0xA002, 0xAFFE, 0xB000, 0xBFFE} {
		for v := range 256 {
			m.Write(a, byte(v))
			want.mirror = ines.Vertical
			if v%2 == 1 {
				want.mirror = ines.Horizontal
			}
			looks(t, m, want)
		}
	}
}

// K2: an odd address of A000 to BFFF does nothing.
func TestCountingMirrorOdd(t *testing.T) {
	for _, v := range []byte{0, 1} {
		m := countingMap(t)
		m.Write(0xA000, v)
		m.Write(0xC000, 3)
		m.Write(0xE001, 0)
		m.Clock()
		was := lookAt(t, m)
		for a := 0xA001; a < 0xC000; a += 2 {
			m.Write(uint16(a), byte(a>>1))
			looks(t, m, was)
		}
		asksAt(t, m, 3)
	}
}

// K2: a cart's Mirror holds until one is written.
func TestCountingMirrorFirst(t *testing.T) {
	for _, mirror := range mirrors {
		c := cart(4, 2, 1)
		c.Mirror = mirror
		m := mapOf(t, c)
		for _, a := range []uint16{0x8000, 0x8001, 0xA001, 0xBFFF, 0xC000, 0xC001, 0xE000, 0xE001} {
			m.Write(a, 0xFF)
			m.Write(a, 0)
			if m.Mirror() != mirror {
				t.Errorf("%X: %d", a, m.Mirror())
			}
		}
	}
}
