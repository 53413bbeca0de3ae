package nesmap_test

import (
	"testing"

	"picklock/ines"
	"picklock/nesmap"
)

// K1: Page and PRG of each address: -1 below 8000; of the four spans from there on each has its page, and PRG is 8192 times it, and the address's lowest thirteen bits.
func TestPages(t *testing.T) {
	m := made(t, 4, 8, 1)
	setRegister(m, 0, 6, 9)
	setRegister(m, 0, 7, 4)
	for a := range 0x10000 {
		page, place := m.Page(uint16(a)), m.PRG(uint16(a))
		want := -1
		switch {
		case a >= 0xE000:
			want = 15
		case a >= 0xC000:
			want = 14
		case a >= 0xA000:
			want = 4
		case a >= 0x8000:
			want = 9
		}
		at := -1
		if a >= 0x8000 {
			at = 8192*want + a&0x1FFF
		}
		if page != want || place != at {
			t.Fatalf("%X: page %d, place %X instead of %d, %X", a, page, place, want, at)
		}
	}
}

// K1: below 8000 no page stands, for each mapper.
func TestPagesBelow(t *testing.T) {
	for mapper := range mappers {
		m := made(t, mapper, 2, 1)
		for a := range 0x8000 {
			if m.Page(uint16(a)) != -1 || m.PRG(uint16(a)) != -1 {
				t.Fatalf("mapper %d, %X: page %d, place %d", mapper, a, m.Page(uint16(a)), m.PRG(uint16(a)))
			}
		}
	}
}

// K1: pages are counted round by how many there are: of one unit of 16384 bytes, and of numbers that are no powers of 2.
func TestPagesRound(t *testing.T) {
	for _, mapper := range []int{0, 3} {
		hasPages(t, made(t, mapper, 1, 1), pages{0, 1, 0, 1})
		hasPages(t, made(t, mapper, 2, 1), pages{0, 1, 2, 3})
		hasPages(t, made(t, mapper, 3, 1), pages{0, 1, 2, 3})
		hasPages(t, made(t, mapper, 255, 1), pages{0, 1, 2, 3})
	}
	m := made(t, 2, 3, 1)
	for v, want := range []pages{{0, 1, 4, 5}, {2, 3, 4, 5}, {4, 5, 4, 5}, {0, 1, 4, 5}, {2, 3, 4, 5}} {
		m.Write(0x8000, byte(v))
		hasPages(t, m, want)
	}
	// 510 and 511 are 0 and 1 more than 85 times six.
	m.Write(0x8000, 255)
	hasPages(t, m, pages{0, 1, 4, 5})
	m = made(t, 4, 5, 1)
	for v, want := range map[byte]int{0: 0, 9: 9, 10: 0, 13: 3, 63: 3, 64: 4, 128: 8, 255: 5} {
		setRegister(m, 0, 6, v)
		hasPages(t, m, pages{want, 0, 8, 9})
	}
}

// K1: CHR of each address: its lowest thirteen bits alone count, and each of the eight spans of 1024 has its unit.
func TestUnits(t *testing.T) {
	m := made(t, 4, 1, 4)
	for i, v := range []byte{5, 8, 20, 21, 22, 31} {
		setRegister(m, 0, i, v)
	}
	want := units{4, 5, 8, 9, 20, 21, 22, 31}
	for a := range 0x10000 {
		low := a & 0x1FFF
		if got := m.CHR(uint16(a)); got != want[low>>10]*1024+low&0x3FF {
			t.Fatalf("%X: place %X", a, got)
		}
	}
}

// K1: for each mapper the lowest thirteen bits count.
func TestUnitsBits(t *testing.T) {
	for mapper := range mappers {
		m := made(t, mapper, 1, 1)
		for low := range 0x2000 {
			for high := 0x2000; high < 0x10000; high += 0x2000 {
				if m.CHR(uint16(high|low)) != m.CHR(uint16(low)) {
					t.Fatalf("mapper %d: %X has another place than %X", mapper, high|low, low)
				}
			}
		}
	}
}

// K1: units are counted round by how many there are.
func TestUnitsRound(t *testing.T) {
	m := made(t, 3, 1, 3)
	for v, want := range []int{0, 8, 16, 0, 8, 16, 0} {
		m.Write(0x8000, byte(v))
		hasUnits(t, m, eightFrom(want))
	}
	m = made(t, 4, 1, 3)
	for v, want := range map[byte]int{0: 0, 23: 23, 24: 0, 25: 1, 100: 4, 255: 15} {
		setRegister(m, 0, 2, v)
		hasUnits(t, m, units{0, 1, 0, 1, want, 0, 0, 0})
	}
	m = made(t, 1, 1, 5)
	setSerial(m, 0xA000, 31)
	hasUnits(t, m, eightFrom(0))
	setSerial(m, 0xA000, 28)
	hasUnits(t, m, eightFrom(32))
}

// busy makes a map whose registers are all something.
func busy(t *testing.T, mapper int) *nesmap.Map {
	t.Helper()
	m := made(t, mapper, 7, 7)
	switch mapper {
	case 1:
		for i, n := range []int{0x1B, 5, 9, 4} {
			setSerial(m, uint16(0x8000+i*pageBytes), n)
		}
		m.Write(0x8000, 1)
		m.Write(0x8000, 0)
	case 4:
		for i := range 8 {
			setRegister(m, 0xC0, i, byte(2*i+3))
		}
		m.Write(0xC000, 2)
		m.Write(0xE001, 0)
		m.Clock()
	default:
		m.Write(0x8000, 5)
	}
	return m
}

// finish does what shows registers that no call tells: a number that is half gathered, and a counter.
func finish(t *testing.T, m *nesmap.Map) [6]look {
	t.Helper()
	var out [6]look
	for i := range out {
		out[i] = lookAt(t, m)
		m.Clock()
		if i >= 2 {
			m.Write(0xE001, 1)
		}
	}
	return out
}

// K1: below 8000 nothing happens, for each mapper, whatever is written.
func TestWriteBelow(t *testing.T) {
	for mapper := range mappers {
		want := finish(t, busy(t, mapper))
		m := busy(t, mapper)
		for a := 0; a < 0x8000; a++ {
			m.Write(uint16(a), byte(a*7+a>>8))
		}
		for _, a := range []uint16{0, 1, 0x1FFF, 0x2000, 0x4014, 0x5FFE, 0x5FFF, 0x6000, 0x6001, 0x7FFE, 0x7FFF} {
			for v := range 256 {
				m.Write(a, byte(v))
			}
		}
		if got := finish(t, m); got != want {
			t.Errorf("mapper %d: %+v instead of %+v", mapper, got, want)
		}
	}
}

// K1: the chapter's example.
func TestExample(t *testing.T) {
	m := made(t, 2, 4, 1)
	m.Write(0x8000, 1)
	if m.PRG(0x8001) != 0x4001 || m.PRG(0xC000) != 0xC000 {
		t.Errorf("%X, %X", m.PRG(0x8001), m.PRG(0xC000))
	}
}

// K1: Mapper 0: pages and units in their order, Mirror as the cart says; Write does nothing.
func TestMapper0(t *testing.T) {
	for _, mirror := range mirrors {
		c := cart(0, 2, 4)
		c.Mirror = mirror
		m := mapOf(t, c)
		want := look{pages{0, 1, 2, 3}, inOrder, mirror, false}
		looks(t, m, want)
		for a := 0x8000; a < 0x10000; a += 0xFF {
			for _, v := range []byte{0, 1, 2, 3, 0x0C, 0x7F, 0x80, 0xFF} {
				m.Write(uint16(a), v)
				looks(t, m, want)
			}
		}
	}
}

// K1: Mapper 2: each number, by a write to whatever address from 8000 on.
func TestMapper2(t *testing.T) {
	for _, prg := range numbers {
		m := made(t, 2, prg, 2)
		for v := range 256 {
			for _, a := range edges(v % 4) {
				m.Write(a, byte(v+1))
				m.Write(a, byte(v))
				want := pages{2 * v, 2*v + 1, 2*prg - 2, 2*prg - 1}
				looks(t, m, look{want.counted(prg), inOrder, ines.Vertical, false})
			}
		}
	}
}

// K1: Mapper 3: each number, by a write to whatever address from 8000 on.
func TestMapper3(t *testing.T) {
	for _, chr := range numbers {
		m := made(t, 3, 2, chr)
		for v := range 256 {
			for _, a := range edges(v % 4) {
				m.Write(a, byte(v+1))
				m.Write(a, byte(v))
				looks(t, m, look{pages{0, 1, 2, 3}, eightFrom(8 * v).counted(chr), ines.Vertical, false})
			}
		}
	}
}

// K1: Mappers 2 and 3: Mirror stays as the cart says, whatever is written; one write to each address.
func TestMirrorStays(t *testing.T) {
	for _, mapper := range []int{2, 3} {
		for _, mirror := range mirrors {
			c := cart(mapper, 4, 4)
			c.Mirror = mirror
			m := mapOf(t, c)
			for a := 0x8000; a < 0x10000; a++ {
				m.Write(uint16(a), byte(a*3))
				if m.Mirror() != mirror {
					t.Fatalf("mapper %d, %X: %d", mapper, a, m.Mirror())
				}
			}
		}
	}
}

// K1, K2: each address has a place that there is, after whatever writes.
func TestPlaces(t *testing.T) {
	for mapper := range mappers {
		for _, n := range numbers {
			m := made(t, mapper, n, n)
			script := chance(mapper*1000+n, 3*600)
			for i := 0; i < len(script); i += 3 {
				a := uint16(script[i])<<8 | uint16(script[i+1])
				m.Write(a, script[i+2]>>(script[i]&1))
				m.Clock()
				l := lookAt(t, m)
				for _, page := range l.pages {
					if page < 0 || page >= 2*n {
						t.Fatalf("mapper %d: page %d of %d", mapper, page, 2*n)
					}
				}
				for _, unit := range l.units {
					if unit < 0 || unit >= 8*n {
						t.Fatalf("mapper %d: unit %d of %d", mapper, unit, 8*n)
					}
				}
			}
			hasPlaces(t, m, n*prgUnit, n*chrUnit)
		}
	}
}

// hasPlaces goes through all addresses.
func hasPlaces(t *testing.T, m *nesmap.Map, prg, chr int) {
	t.Helper()
	for a := range 0x10000 {
		if p := m.PRG(uint16(a)); a >= 0x8000 && (p < 0 || p >= prg || p%pageBytes != a%pageBytes) {
			t.Fatalf("%X: place %X of %X", a, p, prg)
		}
		if p := m.CHR(uint16(a)); p < 0 || p >= chr || p%unitBytes != a%unitBytes {
			t.Fatalf("%X: picture's place %X of %X", a, p, chr)
		}
	}
}
