package nesmap_test

import (
	"testing"

	"picklock/ines"
	"picklock/nesmap"
)

// The addresses at which Mapper 1's registers are laid.
const (
	controlAt = 0x8000
	lowAt     = 0xA000
	highAt    = 0xC000
	prgAt     = 0xE000
)

// serial is what Mapper 1's registers say, as numbers.
type serial struct{ control, low, high, prg int }

// look tells what a map of so many units shows, by the chapter's words.
func (s serial) look(prg, chr int) look {
	var p pages
	b, last := s.prg%16, 2*prg-1
	switch s.control / 4 % 4 {
	case 0, 1:
		at := 4 * (b / 2)
		p = pages{at, at + 1, at + 2, at + 3}
	case 2:
		p = pages{0, 1, 2 * b, 2*b + 1}
	case 3:
		p = pages{2 * b, 2*b + 1, last - 1, last}
	}
	u := eightFrom(8 * (s.low / 2))
	if s.control >= 16 {
		l, h := 4*s.low, 4*s.high
		u = units{l, l + 1, l + 2, l + 3, h, h + 1, h + 2, h + 3}
	}
	mirror := [...]int{ines.Lower, ines.Upper, ines.Vertical, ines.Horizontal}[s.control%4]
	return look{p.counted(prg), u.counted(chr), mirror, false}
}

// set lays all registers of a map, whatever they were.
func (s serial) set(m *nesmap.Map) {
	setSerial(m, controlAt, s.control)
	setSerial(m, lowAt, s.low)
	setSerial(m, highAt, s.high)
	setSerial(m, prgAt, s.prg)
}

// K1: Mapper 1 at first, whatever the cart's Mirror: CONTROL is 0C, all else 0.
func TestSerialFirst(t *testing.T) {
	for _, mirror := range []int{ines.Horizontal, ines.Vertical, ines.Upper} {
		c := cart(1, 4, 4)
		c.Mirror = mirror
		m := mapOf(t, c)
		looks(t, m, look{pages{0, 1, 6, 7}, inOrder, ines.Lower, false})
		// What is set anew shows that nothing else was set at first.
		setSerial(m, controlAt, 0x10)
		looks(t, m, look{pages{0, 1, 2, 3}, units{0, 1, 2, 3, 0, 1, 2, 3}, ines.Lower, false})
	}
}

// K1: five writes make a number, its lowest bit first, of the v's lowest bits: all numbers, and other bits below 128 beside them.
func TestSerialNumbers(t *testing.T) {
	for n := range 32 {
		for _, beside := range []byte{0, 2, 0x0C, 0x40, 0x55 &^ 1, 0x7E} {
			m := made(t, 1, 16, 16)
			setSerial(m, controlAt, 0x1C)
			for i := range 5 {
				m.Write(lowAt, byte(n>>i&1)|beside)
			}
			looks(t, m, serial{0x1C, n, 0, 0}.look(16, 16))
		}
	}
	m := made(t, 1, 16, 16)
	for _, v := range []byte{1, 0, 1, 0, 0} {
		m.Write(prgAt, v)
	}
	hasPages(t, m, pages{10, 11, 30, 31})
	for _, v := range []byte{0, 0, 1, 1, 0} {
		m.Write(prgAt, v)
	}
	hasPages(t, m, pages{24, 25, 30, 31})
}

// K1: with fewer than five writes nothing is laid.
func TestSerialFew(t *testing.T) {
	for _, a := range []uint16{controlAt, lowAt, highAt, prgAt} {
		m := made(t, 1, 8, 8)
		was := serial{0x1F, 6, 3, 2}
		was.set(m)
		for range 4 {
			looks(t, m, was.look(8, 8))
			m.Write(a, 0)
		}
		looks(t, m, was.look(8, 8))
		m.Write(a, 0)
		if lookAt(t, m) == was.look(8, 8) {
			t.Errorf("%X: the fifth write lays nothing", a)
		}
	}
}

// laid tells registers of which one, by the span of its addresses, is another number.
func (s serial) laid(span, n int) serial {
	switch span {
	case 0:
		s.control = n
	case 1:
		s.low = n
	case 2:
		s.high = n
	case 3:
		s.prg = n
	}
	return s
}

// K1: the register is told by the fifth write's address: the four spans, each at its first address, its last one, and some between.
func TestSerialRegisters(t *testing.T) {
	was := serial{0x1E, 7, 4, 9}
	for span := range 4 {
		for _, a := range edges(span) {
			for _, n := range []int{0, 1, 0x0A, 0x15, 0x1D, 0x1F} {
				m := made(t, 1, 16, 16)
				was.set(m)
				setSerial(m, a, n)
				looks(t, m, was.laid(span, n).look(16, 16))
			}
		}
	}
}

// K1: the addresses of the four writes ahead have no part in it.
func TestSerialAddresses(t *testing.T) {
	was := serial{0x1E, 7, 4, 9}
	for span := range 4 {
		for others := range 4 * 4 * 4 * 4 {
			m := made(t, 1, 16, 16)
			was.set(m)
			for i := range 4 {
				m.Write(edges(others >> (2 * i) & 3)[i], byte(0x15>>i&1))
			}
			m.Write(edges(span)[6], 1)
			looks(t, m, was.laid(span, 0x15).look(16, 16))
		}
	}
}

// K1: behind the fifth write it begins anew: numbers one behind the other, none of which has bits of those ahead.
func TestSerialAnew(t *testing.T) {
	m := made(t, 1, 16, 16)
	for _, n := range []int{0x0F, 0, 0x0A, 5, 0x0F, 1, 0, 8, 2, 4} {
		setSerial(m, prgAt, n)
		hasPages(t, m, pages{2 * n, 2*n + 1, 30, 31})
	}
	for i := range 40 {
		span := i * 3 % 4
		setSerial(m, edges(span)[i%7], i*7%32)
	}
	// Of the last ones: 36 for CONTROL, 39 for LOW, 38 for HIGH, 37 for PRG's.
	looks(t, m, serial{36 * 7 % 32, 39 * 7 % 32, 38 * 7 % 32, 37 * 7 % 32}.look(16, 16))
}

// K1: a v from 128 on begins anew, whatever was gathered, and wherever it is written.
func TestSerialReset(t *testing.T) {
	was := serial{0x1E, 7, 4, 9}
	for gathered := range 5 {
		for span := range 4 {
			for _, v := range []byte{0x80, 0x81, 0xC0, 0xFE, 0xFF} {
				m := made(t, 1, 16, 16)
				was.set(m)
				for range gathered {
					m.Write(lowAt, 1)
				}
				m.Write(edges(span)[gathered], v)
				looks(t, m, was.laid(0, 0x1E).look(16, 16))
				setSerial(m, lowAt, 2)
				looks(t, m, serial{0x1E, 2, 4, 9}.look(16, 16))
			}
		}
	}
}

// K1: 127 is gathered, and from 128 on all begin anew.
func TestSerialResetFrom(t *testing.T) {
	for v := range 256 {
		m := made(t, 1, 16, 16)
		setSerial(m, controlAt, 0)
		m.Write(lowAt, byte(v))
		for range 4 {
			m.Write(lowAt, 1)
		}
		want := serial{0, 0x1E | v&1, 0, 0}
		if v >= 128 {
			want = serial{0x0C, 0, 0, 0}
		}
		looks(t, m, want.look(16, 16))
	}
}

// K1: it sets bits 2 and 3 of CONTROL, and leaves its other bits, and all other registers.
func TestSerialResetControl(t *testing.T) {
	for control := range 32 {
		for _, a := range []uint16{controlAt, 0x9FFF, lowAt, highAt, prgAt, 0xFFFF} {
			m := made(t, 1, 16, 16)
			serial{control, 0x0B, 0x16, 5}.set(m)
			m.Write(a, 0x80)
			looks(t, m, serial{control | 0x0C, 0x0B, 0x16, 5}.look(16, 16))
			m.Write(a, 0xFF)
			looks(t, m, serial{control | 0x0C, 0x0B, 0x16, 5}.look(16, 16))
		}
	}
}

// K1: Mirror by CONTROL's lowest two bits, whatever the others.
func TestSerialMirror(t *testing.T) {
	m := made(t, 1, 2, 2)
	for _, others := range []int{0, 4, 8, 0x0C, 0x10, 0x1C} {
		for bits, want := range []int{ines.Lower, ines.Upper, ines.Vertical, ines.Horizontal} {
			setSerial(m, controlAt, others|bits)
			if m.Mirror() != want {
				t.Errorf("%02X: %d", others|bits, m.Mirror())
			}
		}
	}
}

// K1: pages by bits 2 and 3 of CONTROL, written out.
func TestSerialModes(t *testing.T) {
	m := made(t, 1, 16, 2)
	for _, x := range []struct {
		mode, b int
		want    pages
	}{
		{0, 0, pages{0, 1, 2, 3}},
		{0, 1, pages{0, 1, 2, 3}},
		{0, 6, pages{12, 13, 14, 15}},
		{0, 7, pages{12, 13, 14, 15}},
		{0, 15, pages{28, 29, 30, 31}},
		{1, 0, pages{0, 1, 2, 3}},
		{1, 7, pages{12, 13, 14, 15}},
		{1, 8, pages{16, 17, 18, 19}},
		{2, 0, pages{0, 1, 0, 1}},
		{2, 7, pages{0, 1, 14, 15}},
		{2, 15, pages{0, 1, 30, 31}},
		{3, 0, pages{0, 1, 30, 31}},
		{3, 7, pages{14, 15, 30, 31}},
		{3, 15, pages{30, 31, 30, 31}},
	} {
		for _, others := range []int{0, 3, 0x10, 0x13} {
			setSerial(m, controlAt, others|x.mode<<2)
			setSerial(m, prgAt, x.b)
			hasPages(t, m, x.want)
			setSerial(m, prgAt, x.b|0x10)
			hasPages(t, m, x.want)
		}
	}
}

// K1: pages of each CONTROL and each number of PRG's register, of whose bits the lowest four count, counted round by each size.
func TestSerialPages(t *testing.T) {
	for _, prg := range numbers {
		m := made(t, 1, prg, 2)
		for control := range 32 {
			setSerial(m, controlAt, control)
			for n := range 32 {
				setSerial(m, prgAt, n)
				looks(t, m, serial{control, 0, 0, n}.look(prg, 2))
			}
		}
	}
}

// K1: units, written out.
func TestSerialUnitsOne(t *testing.T) {
	m := made(t, 1, 2, 16)
	setSerial(m, lowAt, 9)
	setSerial(m, highAt, 0x1E)
	hasUnits(t, m, eightFrom(32))
	setSerial(m, controlAt, 0x10)
	hasUnits(t, m, units{36, 37, 38, 39, 120, 121, 122, 123})
	setSerial(m, controlAt, 0x0F)
	setSerial(m, lowAt, 0x1E)
	hasUnits(t, m, eightFrom(120))
	setSerial(m, lowAt, 0x1F)
	hasUnits(t, m, eightFrom(120))
}

// K1: units of each LOW and HIGH, with CONTROL's bit 4 set and not set, counted round by each size.
func TestSerialUnits(t *testing.T) {
	for _, chr := range numbers {
		m := made(t, 1, 2, chr)
		for low := range 32 {
			for _, high := range []int{0, 1, 2, 3, 7, 8, 15, 16, 0x1E, 0x1F, 31 - low} {
				for _, control := range []int{0x0C, 0x1C, 0, 0x10, 0x0F, 0x1F} {
					s := serial{control, low, high, 0}
					s.set(m)
					looks(t, m, s.look(2, chr))
				}
			}
		}
	}
}
