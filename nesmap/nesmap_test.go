package nesmap_test

import (
	"testing"

	"picklock/api"
	"picklock/ines"
	"picklock/nesmap"
)

const (
	// prgUnit and chrUnit are how many bytes a cart has whole ones of.
	prgUnit = 16384
	chrUnit = 8192
	// pageBytes and unitBytes are what PRG and CHR have pages and units of.
	pageBytes = 8192
	unitBytes = 1024
)

// mappers is how many there are, from 0 on.
const mappers = 5

// mirrors are those that a file may tell.
var mirrors = [...]int{ines.Horizontal, ines.Vertical}

// numbers are counts of units with one, with few, with powers of 2, and with others.
var numbers = [...]int{1, 2, 3, 4, 5, 7, 8, 16, 24, 31, 32, 64, 100, 255}

// chance tells n bytes that look like chance, but are always the same for a seed.
func chance(seed, n int) []byte {
	x := uint32(seed)*2654435761 + 1
	b := make([]byte, n)
	for i := range b {
		x = x*1664525 + 1013904223
		b[i] = byte(x >> 24)
	}
	return b
}

// cart is one of so many units of 16384 bytes of PRG, and of 8192 of CHR.
func cart(mapper, prg, chr int) ines.Cart {
	return ines.Cart{Mapper: mapper, Mirror: ines.Vertical, PRG: make([]byte, prg*prgUnit), CHR: make([]byte, chr*chrUnit)}
}

// mapOf is for a cart that has a map.
func mapOf(t *testing.T, c ines.Cart) *nesmap.Map {
	t.Helper()
	m, e := nesmap.New(c)
	if m == nil || e != api.OK {
		t.Fatalf("mapper %d, PRG of %d, CHR of %d: %v", c.Mapper, len(c.PRG), len(c.CHR), e)
	}
	return m
}

func made(t *testing.T, mapper, prg, chr int) *nesmap.Map {
	t.Helper()
	return mapOf(t, cart(mapper, prg, chr))
}

// pages are those at the four spans, units those at the eight.
type (
	pages [4]int
	units [8]int
)

// inOrder are the units of Mapper 0, if there are eight of them or more.
var inOrder = units{0, 1, 2, 3, 4, 5, 6, 7}

// look is all that a map tells.
type look struct {
	pages  pages
	units  units
	mirror int
	irq    bool
}

// lookAt tells all of m, and holds Page, PRG and CHR against one another at each span's first and last address, and at one between.
func lookAt(t *testing.T, m *nesmap.Map) look {
	t.Helper()
	out := look{mirror: m.Mirror(), irq: m.IRQ()}
	for i := range out.pages {
		first := 0x8000 + i*pageBytes
		out.pages[i] = m.Page(uint16(first))
		for _, at := range []int{0, 0x1234, pageBytes - 1} {
			page, place := m.Page(uint16(first+at)), m.PRG(uint16(first+at))
			if page != out.pages[i] || place != page*pageBytes+at {
				t.Errorf("%X: page %d, place %X; at the span's first address page %d", first+at, page, place, out.pages[i])
			}
		}
	}
	for i := range out.units {
		first := i * unitBytes
		out.units[i] = m.CHR(uint16(first)) / unitBytes
		for _, at := range []int{0, 0x123, unitBytes - 1} {
			if place := m.CHR(uint16(first + at)); place != out.units[i]*unitBytes+at {
				t.Errorf("%X: place %X; at the span's first address unit %d", first+at, place, out.units[i])
			}
		}
	}
	return out
}

// looks is for a map that tells just what is wanted.
func looks(t *testing.T, m *nesmap.Map, want look) {
	t.Helper()
	if got := lookAt(t, m); got != want {
		t.Errorf("%+v instead of %+v", got, want)
	}
}

// hasPages is for a map at whose four spans just these pages stand.
func hasPages(t *testing.T, m *nesmap.Map, want pages) {
	t.Helper()
	if got := lookAt(t, m).pages; got != want {
		t.Errorf("pages %v instead of %v", got, want)
	}
}

// hasUnits is for a map at whose eight spans just these units stand.
func hasUnits(t *testing.T, m *nesmap.Map, want units) {
	t.Helper()
	if got := lookAt(t, m).units; got != want {
		t.Errorf("units %v instead of %v", got, want)
	}
}

// counted tells pages counted round by how many a PRG of so many units of 16384 bytes has.
func (p pages) counted(prg int) pages {
	for i := range p {
		p[i] %= 2 * prg
	}
	return p
}

// counted tells units counted round by how many a CHR of so many units of 8192 bytes has.
func (u units) counted(chr int) units {
	for i := range u {
		u[i] %= 8 * chr
	}
	return u
}

// eightFrom are the eight units from one on.
func eightFrom(n int) units {
	return units{n, n + 1, n + 2, n + 3, n + 4, n + 5, n + 6, n + 7}
}

// edges are addresses of a span, from 0 to 3: its first and its last ones, and some between.
func edges(span int) []uint16 {
	first := 0x8000 + span*pageBytes
	return []uint16{uint16(first), uint16(first + 1), uint16(first + 0x0FFF), uint16(first + 0x1000), uint16(first + 0x1555), uint16(first + 0x1FFE), uint16(first + 0x1FFF)}
}

// setSerial writes a number of five bits for Mapper 1, its lowest one first.
func setSerial(m *nesmap.Map, a uint16, n int) {
	for i := range 5 {
		m.Write(a, byte(n>>i&1))
	}
}

// setRegister writes a register of Mapper 4, with so much of SELECT that has nothing to do with its number.
func setRegister(m *nesmap.Map, selected, number int, v byte) {
	m.Write(0x8000, byte(selected|number))
	m.Write(0x8001, v)
}
